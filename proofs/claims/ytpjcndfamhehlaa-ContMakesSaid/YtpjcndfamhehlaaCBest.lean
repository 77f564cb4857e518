/- (*set).best. -/
import Derived.Test.YtpjcndfamhehlaaCAs
namespace Go.Proofs.Ytpjcndfamhehlaa
open Go.RowKit

theorem asV_good {s : Bs} {f : Nat} (h1 : 1 ≤ f) (h3 : f ≤ 3) : asV s (f : Int) = .tuple #[.agg #[.int .i64 f, .string ⟨(formS s f).toArray⟩], .int .i64 0] := by
  unfold asV
  rw [if_pos (by unfold okF; omega)]; rfl
theorem idx_0 (w : World) : (Instr.index 68 (.agg #[.int .i64 3, .int .i64 2]) (.int .i64 0)).run Try.prog w = .ok (.int .i64 3) w := by
  simp [Instr.index, asIntOf, run_underlying Try.underlying68, part, Try.sizeOf3, Try.isAgg3]
theorem idx_1 (w : World) : (Instr.index 68 (.agg #[.int .i64 3, .int .i64 2]) (.int .i64 1)).run Try.prog w = .ok (.int .i64 2) w := by
  simp [Instr.index, asIntOf, run_underlying Try.underlying68, part, Try.sizeOf3, Try.isAgg3]
/-- The best form of those that have been asked. -/
def bestK (s : Bs) (k : Nat) : Nat := if k = 0 then 1 else if k = 1 then (if (formS s 3).length < (formS s 1).length then 3 else 1) else bestF s
theorem bestK_1 (s : Bs) : bestK s (0 + 1) = if (formS s 3).length < (formS s (bestK s 0)).length then 3 else bestK s 0 := by rfl
theorem bestK_2 (s : Bs) : bestK s (1 + 1) = if (formS s 2).length < (formS s (bestK s 1)).length then 2 else bestK s 1 := by
  have h2 : (formS s 2).length = 32 := bitsTo_length s 256
  show bestF s = if (formS s 2).length < (formS s (if (formS s 3).length < (formS s 1).length then 3 else 1)).length then 2 else (if (formS s 3).length < (formS s 1).length then 3 else 1)
  unfold bestF
  rw [h2]
  by_cases h : (formS s 3).length < (formS s 1).length
  · rw [if_pos h, if_neg (by omega)]
    by_cases h5 : (formS s 3).length ≤ 32
    · rw [if_pos h5, if_neg (by omega)]
    · rw [if_neg h5, if_pos (by omega)]
  · rw [if_neg h]
    by_cases h5 : (formS s 1).length ≤ 32
    · rw [if_pos (by omega), if_neg (by omega)]
    · rw [if_neg (by omega), if_neg (by omega), if_pos (by omega)]
/-- The state of best's walk: the result's cell, the best one's. -/
def BestSt (w : World) (s : Bs) (g k : Nat) (wr : World) : Prop := ResSt w wr ∧ Blk wr g 23 #[.int .i64 (bestK s k : Nat), .string ⟨(formS s (bestK s k)).toArray⟩]
theorem BestSt.under {w wr w2 : World} {s : Bs} {g k : Nat} (h : BestSt w s g k wr) (hb : Below wr.heap.size wr w2) : BestSt w s g k w2 := ⟨h.1.under hb, h.2.under hb⟩
theorem BestSt.put {w wr : World} {s : Bs} {g k k2 : Nat} (h : BestSt w s g k wr) (hg : w.heap.size + 1 ≤ g) {f : Nat} (e : bestK s k2 = f) : BestSt w s g k2 ((wr.setCell ⟨g, 0, none⟩ (.int .i64 f)).setCell ⟨g, 1, none⟩ (.string ⟨(formS s f).toArray⟩)) := by
  subst e
  exact ⟨⟨(h.1.1.far (p := ⟨g, 0, none⟩) (by simp; omega) _).far (p := ⟨g, 1, none⟩) (by simp; omega) _, (h.1.2.setCell (p := ⟨g, 0, none⟩) (by simp; omega) _).setCell (p := ⟨g, 1, none⟩) (by simp; omega) _⟩, h.2.set2 _ _⟩
theorem BestSt.keep {w wr : World} {s : Bs} {g k k2 : Nat} (h : BestSt w s g k wr) (e : bestK s k2 = bestK s k) : BestSt w s g k2 wr := by
  unfold BestSt
  rw [e]; exact h
theorem bestK_pos (s : Bs) (k : Nat) : 1 ≤ bestK s k ∧ bestK s k ≤ 3 := by
  unfold bestK
  split
  · decide
  · split
    · split <;> decide
    · exact bestF_form s

set_option maxRecDepth 100000 in
set_option maxHeartbeats 4000000 in
theorem best_any (B : Nat) (s : Bs) (w : World) (bB : Blk w B 48 (scl s)) :
    Calls Try.prog 33 #[.pointer (some ⟨B, 0, none⟩)] w fun e w' => e = .returned (contV (bestF s : Nat) (bestD s)) ∧ Below w.heap.size w w' := by
  have hS0 := ResSt.start w
  have bB0 := bB.under hS0.2
  have hBlt := bB.lt
  have HS0 := Lib.hid hS0
  have HA1 := Lib.hid (as_any B s 1 (by decide) (by decide) _ bB0)
  rw [show ((1 : Int)) = ((1 : Nat) : Int) from rfl, asV_good (by decide) (by decide)] at HA1
  have HA := Lib.hid (fun (f : Nat) (h1 : 1 ≤ f) (h3 : f ≤ 3) W hW => asV_good (s := s) h1 h3 ▸ as_any B s f (by omega) (by omega) W hW)
  have HB := Lib.hid bB
  have hK0 : bestK s 0 = 1 := rfl
  have HK0 := Lib.hid hK0
  have HD : Hid (contV (bestF s : Nat) (bestD s) = .agg #[.int .i64 (bestK s 2 : Nat), .string ⟨(formS s (bestK s 2)).toArray⟩]) := Lib.hid rfl
  have hidx0 := idx_0
  have hidx1 := idx_1
  clear hS0 bB hK0
  go_enter Try.func33, Try.ntmps33
  go_wp2_with fail
  refine HA1.out.mono ?_
  rintro e w1 ⟨rfl, hb1⟩
  have hS1 := HS0.out.under hb1
  have hg := Blk.new w1 23 #[.int .i64 ((1 : Nat) : Int), .string ⟨(formS s 1).toArray⟩]
  have HS1 : Hid (ResSt w (w1.alloc (.cells #[.int .i64 ((1 : Nat) : Int), .string ⟨(formS s 1).toArray⟩] 23))) := Lib.hid (hS1.under ((Below.refl _ w1).alloc (Nat.le_refl _) _))
  have hgs : w.heap.size + 1 ≤ w1.heap.size := by have := hS1.1.lt; omega
  clear hS1 hb1
  go_wp2
  generalize w1.heap.size = g at *
  have HI : Hid (BestSt w s g 0 (w1.alloc (.cells #[.int .i64 ((1 : Nat) : Int), .string ⟨(formS s 1).toArray⟩] 23))) := Lib.hid ⟨HS1.out, by rw [HK0.out]; exact hg⟩
  clear hg HS1
  go_loopw [15] (fun i wr => ∃ k : Nat, k ≤ 2 ∧ i = .int .i64 k ∧ BestSt w s g k wr) (fun i _ => 2 - (intOf i).toNat)
  case atStart => exact ⟨0, Nat.zero_le _, rfl, HI.out⟩
  case round =>
    obtain ⟨k, hk, rfl, hS⟩ := hrel
    by_cases hlt : k < 2
    · rcases (show k = 0 ∨ k = 1 by omega) with rfl | rfl
      · clear hlt hk
        have HA2 := Lib.hid (HA.out 3 (by decide) (by decide) wr (HB.out.under hS.1.2))
        have HS := Lib.hid hS
        have HK := Lib.hid (bestK_1 s)
        obtain ⟨db, hdb⟩ : ∃ db, db = formS s 3 := ⟨_, rfl⟩
        obtain ⟨dc, hdc⟩ : ∃ dc, dc = formS s (bestK s 0) := ⟨_, rfl⟩
        obtain ⟨q, hq⟩ : ∃ q, q = bestK s 0 := ⟨_, rfl⟩
        have HX : Hid (db = formS s 3 ∧ dc = formS s (bestK s 0) ∧ q = bestK s 0) := Lib.hid ⟨hdb, hdc, hq⟩
        rw [← hdb] at HA2
        clear hS hdb hdc hq
        go_wp2_with fail
        refine HA2.out.mono ?_
        rintro e w2 ⟨rfl, hb2⟩
        have hS2 := HS.out.under hb2
        have hgl := hS2.2.lt
        have hgl2 : g ≠ w2.heap.size := by omega
        have c1 := hS2.2.cell 1; have c0 := hS2.2.cell 0; have f0 := hS2.2.frozen 0; have f1 := hS2.2.frozen 1
        dsimp at c0 c1
        rw [← HX.out.2.1] at c1
        rw [← HX.out.2.2] at c0
        have HS3 := Lib.hid hS2
        clear hS2 hb2
        by_cases hlt : db.length < dc.length
        · have HP := Lib.hid ((HS3.out.put hgs (k2 := 0 + 1) (f := 3) (by rw [HK.out, ← HX.out.1, ← HX.out.2.1, if_pos hlt])).under ((Below.refl _ _).alloc (Nat.le_refl _) (.cells #[.int .i64 3, .string ⟨db.toArray⟩] 23)))
          have hlt' : (db.length : Int) < dc.length := by omega
          rw [← HX.out.1] at HP
          go_wp2
          refine ⟨⟨1, by omega, by simp, HP.out⟩, by simp [intOf]⟩
        · have HP := Lib.hid ((HS3.out.keep (k2 := 0 + 1) (by rw [HK.out, ← HX.out.1, ← HX.out.2.1, if_neg hlt])).under ((Below.refl _ _).alloc (Nat.le_refl _) (.cells #[.int .i64 3, .string ⟨db.toArray⟩] 23)))
          have hlt' : ¬ (db.length : Int) < dc.length := by omega
          go_wp2
          refine ⟨⟨1, by omega, by simp, HP.out⟩, by simp [intOf]⟩
      · clear hlt hk
        have HA2 := Lib.hid (HA.out 2 (by decide) (by decide) wr (HB.out.under hS.1.2))
        have HS := Lib.hid hS
        have HK := Lib.hid (bestK_2 s)
        obtain ⟨db, hdb⟩ : ∃ db, db = formS s 2 := ⟨_, rfl⟩
        obtain ⟨dc, hdc⟩ : ∃ dc, dc = formS s (bestK s 1) := ⟨_, rfl⟩
        obtain ⟨q, hq⟩ : ∃ q, q = bestK s 1 := ⟨_, rfl⟩
        have HX : Hid (db = formS s 2 ∧ dc = formS s (bestK s 1) ∧ q = bestK s 1) := Lib.hid ⟨hdb, hdc, hq⟩
        rw [← hdb] at HA2
        clear hS hdb hdc hq
        go_wp2_with fail
        refine HA2.out.mono ?_
        rintro e w2 ⟨rfl, hb2⟩
        have hS2 := HS.out.under hb2
        have hgl := hS2.2.lt
        have hgl2 : g ≠ w2.heap.size := by omega
        have c1 := hS2.2.cell 1; have c0 := hS2.2.cell 0; have f0 := hS2.2.frozen 0; have f1 := hS2.2.frozen 1
        dsimp at c0 c1
        rw [← HX.out.2.1] at c1
        rw [← HX.out.2.2] at c0
        have HS3 := Lib.hid hS2
        clear hS2 hb2
        by_cases hlt : db.length < dc.length
        · have HP := Lib.hid ((HS3.out.put hgs (k2 := 1 + 1) (f := 2) (by rw [HK.out, ← HX.out.1, ← HX.out.2.1, if_pos hlt])).under ((Below.refl _ _).alloc (Nat.le_refl _) (.cells #[.int .i64 2, .string ⟨db.toArray⟩] 23)))
          have hlt' : (db.length : Int) < dc.length := by omega
          rw [← HX.out.1] at HP
          go_wp2
          refine ⟨⟨2, by omega, by simp, HP.out⟩, by simp [intOf]⟩
        · have HP := Lib.hid ((HS3.out.keep (k2 := 1 + 1) (by rw [HK.out, ← HX.out.1, ← HX.out.2.1, if_neg hlt])).under ((Below.refl _ _).alloc (Nat.le_refl _) (.cells #[.int .i64 2, .string ⟨db.toArray⟩] 23)))
          have hlt' : ¬ (db.length : Int) < dc.length := by omega
          go_wp2
          refine ⟨⟨2, by omega, by simp, HP.out⟩, by simp [intOf]⟩
    · obtain rfl : k = 2 := by omega
      have c0 := hS.2.cell 0; have c1 := hS.2.cell 1
      have d0 := hS.1.1.cell 0; have d1 := hS.1.1.cell 1; have f0 := hS.1.1.frozen 0; have f1 := hS.1.1.frozen 1
      dsimp at c0 c1 d0 d1
      have hD := hS.1.done (.int .i64 (bestK s 2 : Nat)) (.string ⟨(formS s (bestK s 2)).toArray⟩)
      clear hS hlt hk
      generalize bestK s 2 = q at *
      generalize formS s q = dq at *
      go_wp2
      exact ret_cont rfl rfl hD.1 rfl ⟨by rw [HD.out], hD.2⟩
end Go.Proofs.Ytpjcndfamhehlaa
