/- The document's answer: Flip. -/
import Derived.Test.YtpjcndfamhehlaaCRefA
import Derived.Test.YtpjcndfamhehlaaCFlip
namespace Go.Proofs.Ytpjcndfamhehlaa
open Go.RowKit

theorem flip_put (s : Bs) (a k : Nat) (hk : a ≤ k) : bcl (put1 (flipS s a k) k (!s k)) = bcl (flipS s a ((k : Int) + 1)) := by
  apply bcl_congr
  intro n _
  unfold put1 flipS
  by_cases e : n = k
  · subst e
    rw [if_pos rfl, if_pos ⟨by omega, by omega⟩]
  · rw [if_neg e]
    by_cases h : (a : Int) ≤ n ∧ (n : Int) < k
    · rw [if_pos h, if_pos ⟨h.1, by omega⟩]
    · rw [if_neg h, if_neg (by omega)]
theorem flip_at (s : Bs) (a k : Nat) : flipS s a k k = s k := by
  unfold flipS; rw [if_neg (by omega)]
theorem flip_zero (s : Bs) (a : Nat) : bcl (flipS s a a) = bcl s := by
  apply bcl_congr
  intro n _
  unfold flipS; rw [if_neg (by omega)]
theorem flip_end (s : Bs) (a b k : Nat) (h : k = b ∨ (k = a ∧ b ≤ a)) : bcl (flipS s a k) = bcl (flipS s a b) := by
  apply bcl_congr
  intro n _
  unfold flipS
  rcases h with rfl | ⟨rfl, hb⟩
  · rfl
  · rw [if_neg (by omega), if_neg (by omega)]
/-- The state of Flip's walk: the container, the result, the set in block g. -/
def FlSt (w : World) (x y : Value) (g : Nat) (s : Bs) (W : World) : Prop := TwoSt w x y W ∧ Blk W g 51 (bcl s) ∧ w.heap.size + 2 ≤ g
theorem FlSt.put {w wr : World} {x y : Value} {g : Nat} {s t : Bs} (h : FlSt w x y g s wr) (n : Nat) (b : Bool) (e : bcl (put1 s n b) = bcl t) : FlSt w x y g t (wr.setCell ⟨g, n, none⟩ (.bool b)) := by
  obtain ⟨⟨h0, h1, h2⟩, h3, h4⟩ := h
  refine ⟨⟨h0.far (by simp; omega) _, h1.far (by simp; omega) _, h2.setCell (by simp; omega) _⟩, ?_, h4⟩
  have := h3.set_ n (.bool b)
  rwa [bcl_set, e] at this
theorem FlSt.under {w wr w2 : World} {x y : Value} {g : Nat} {s : Bs} (h : FlSt w x y g s wr) (hb : Below wr.heap.size wr w2) : FlSt w x y g s w2 := ⟨h.1.under hb, h.2.1.under hb, h.2.2⟩
theorem FlSt.same {w wr : World} {x y : Value} {g : Nat} {s t : Bs} (h : FlSt w x y g s wr) (e : bcl s = bcl t) : FlSt w x y g t wr := ⟨h.1, e ▸ h.2.1, h.2.2⟩
theorem FlSt.start {w wr : World} {x y : Value} {s : Bs} (h : TwoSt w x y wr) : FlSt w x y wr.heap.size s (wr.alloc (.cells (bcl s) 51)) :=
  ⟨h.under ((Below.refl _ wr).alloc (Nat.le_refl _) _), Blk.new wr _ _, by have := h.2.1.lt; omega⟩

section
variable (f : Int) (d : List UInt8) (hd : d.length ≤ 300) (w : World)
set_option maxRecDepth 100000 in
set_option maxHeartbeats 4000000 in
include hd in
theorem ref_flip_any (a b : Int) : Calls Try.prog 29 #[.agg #[.int .i64 f, .string ⟨d.toArray⟩], .int .i64 a, .int .i64 b] w fun e w' => e = .returned (flipV f d a b) ∧ Below w.heap.size w w' := by
  have hS0 := TwoSt.start w (.int .i64 f) (.string ⟨d.toArray⟩)
  have HR := Lib.hid (fun W => ref_right_any f d hd W)
  have HS := Lib.hid (fun W => ref_set_any f d hd W)
  have hst := st_newb
  have hsz := bcl_size
  have hz := zero_b256
  unfold contV at HS
  have c0 := hS0.1.cell 0; have c1 := hS0.1.cell 1
  dsimp at c0 c1
  by_cases hr : RightC f d
  · rw [decide_eq_true hr] at HR
    by_cases hg : 0 ≤ a ∧ a ≤ 256 ∧ 0 ≤ b ∧ b ≤ 256
    · have HV0 : flipV f d a b = .tuple #[.agg #[.int .i64 (bestF (flipS (setOf f.toNat d) a b) : Nat), .string ⟨(bestD (flipS (setOf f.toNat d) a b)).toArray⟩], .int .i64 0] := by unfold flipV; rw [if_pos ⟨hr, hg⟩]; rfl
      obtain ⟨h1, h2, h3, h4⟩ := hg
      obtain ⟨a, rfl⟩ : ∃ k : Nat, a = k := ⟨a.toNat, by omega⟩
      obtain ⟨b, rfl⟩ : ∃ k : Nat, b = k := ⟨b.toNat, by omega⟩
      have HF := Lib.hid (fun W => ref_best_any (flipS (setOf f.toNat d) a b) W)
      generalize setOf f.toNat d = s at *
      have HV := Lib.hid HV0
      clear HV0
      generalize flipV f d a b = av at *
      clear hr
      go_enter Try.func29, Try.ntmps29
      go_wp2_with fail
      refine (HR.out _).mono ?_
      rintro e w1 ⟨rfl, hb1⟩
      have hS1 := hS0.under hb1
      clear hS0 hb1 c0 c1
      have c0 := hS1.1.cell 0; have c1 := hS1.1.cell 1
      dsimp at c0 c1
      go_wp2_with fail
      refine (HS.out _).mono ?_
      rintro e w2 ⟨rfl, hb2⟩
      have hS2 := FlSt.start (s := s) (hS1.under hb2)
      clear hS1 hb2 c0 c1
      go_wp2
      generalize hW : w2.alloc (.cells (bcl s) 51) = W0 at *
      generalize w2.heap.size = g at *
      clear hW
      go_loopw [9] (fun i wr => ∃ k : Nat, (k ≤ 256) ∧ a ≤ k ∧ (k ≤ b ∨ k = a) ∧ i = .int .i64 k ∧ FlSt w (.int .i64 f) (.string ⟨d.toArray⟩) g (flipS s a k) wr) (fun i _ => 256 - (intOf i).toNat)
      case atStart => exact ⟨a, by omega, Nat.le_refl _, .inr rfl, rfl, hS2.same (flip_zero s a).symm⟩
      case round =>
        obtain ⟨k, hk0, hk, hk2, rfl, hS⟩ := hrel
        clear hS2
        by_cases hlt : k < b
        · have hlt' : (k : Int) < b := by omega
          have hk3 : k < 256 := by omega
          have c2 := hS.2.1.cell k
          rw [bcl_get hk3, flip_at] at c2
          have c3 := hS.2.1.frozen k
          have HP := Lib.hid (hS.put k (!s k) (flip_put s a k hk))
          clear hS
          generalize s k = sk at *
          go_wp2
          go_roundw
          case rel => exact ⟨k + 1, by omega, by omega, .inl (by omega), by simp, by have := HP.out; rwa [show ((k + 1 : Nat) : Int) = (k : Int) + 1 by omega]⟩
          case measure => simp [intOf]; omega
        · have hge : ¬ (k : Int) < b := by omega
          have hS9 := hS.same (flip_end s a b k (by omega))
          clear hS
          generalize flipS s a b = u at *
          generalize ((bestF u : Nat) : Int) = q at *
          generalize bestD u = dq at *
          go_wp2_with (refine wpList_ld_b rfl _ rfl _ rfl u ?_ ?_; exact hS9.2.1)
          refine (HF.out _).mono ?_
          rintro e w3 ⟨rfl, hb3⟩
          have hS3 := hS9.1.under hb3
          clear hS9 hb3
          have c0 := hS3.2.1.cell 0; have c1 := hS3.2.1.cell 1
          have f0 := hS3.2.1.frozen 0; have f1 := hS3.2.1.frozen 1
          dsimp at c0 c1
          have hE := hS3.2.1.set2 (.int .i64 q) (.string ⟨dq.toArray⟩)
          have hD := hS3.done (.int .i64 q) (.string ⟨dq.toArray⟩)
          clear hS3
          go_wp2
          exact ret_cont2 rfl rfl hE rfl ⟨by rw [HV.out]; rfl, hD⟩
    · have HV : Hid (flipV f d a b = .tuple #[.agg #[.int .i64 0, .string ⟨#[]⟩], .int .i64 60]) := Lib.hid (by unfold flipV; rw [if_neg (fun h => hg h.2)]; rfl)
      generalize flipV f d a b = av at *
      clear HS hr
      have hg' : a < 0 ∨ (¬ a < 0 ∧ a > 256) ∨ (¬ a < 0 ∧ ¬ a > 256 ∧ b < 0) ∨ (¬ a < 0 ∧ ¬ a > 256 ∧ ¬ b < 0 ∧ b > 256) := by omega
      clear hg
      rcases hg' with hg1 | ⟨hg1, hg2⟩ | ⟨hg1, hg2, hg3⟩ | ⟨hg1, hg2, hg3, hg4⟩
      all_goals
        go_enter Try.func29, Try.ntmps29
        go_wp2_with fail
        refine (HR.out _).mono ?_
        rintro e w1 ⟨rfl, hb1⟩
        have hS3 := hS0.under hb1
        clear hS0 hb1 c0 c1
        have c0 := hS3.2.1.cell 0; have c1 := hS3.2.1.cell 1
        have f0 := hS3.2.1.frozen 0; have f1 := hS3.2.1.frozen 1
        dsimp at c0 c1
        have hE := hS3.2.1.set2 (.int .i64 0) (.string ⟨#[]⟩)
        have hD := hS3.done (.int .i64 0) (.string ⟨#[]⟩)
        clear hS3
        go_wp2
        exact ret_cont2 rfl rfl hE rfl ⟨by rw [HV.out]; rfl, hD⟩
  · rw [decide_eq_false hr] at HR
    have HV : Hid (flipV f d a b = .tuple #[.agg #[.int .i64 0, .string ⟨#[]⟩], .int .i64 60]) := Lib.hid (by unfold flipV; rw [if_neg (fun h => hr h.1)]; rfl)
    generalize flipV f d a b = av at *
    clear HS hr
    go_enter Try.func29, Try.ntmps29
    go_wp2_with fail
    refine (HR.out _).mono ?_
    rintro e w1 ⟨rfl, hb1⟩
    have hS3 := hS0.under hb1
    clear hS0 hb1 c0 c1
    have c0 := hS3.2.1.cell 0; have c1 := hS3.2.1.cell 1
    have f0 := hS3.2.1.frozen 0; have f1 := hS3.2.1.frozen 1
    dsimp at c0 c1
    have hE := hS3.2.1.set2 (.int .i64 0) (.string ⟨#[]⟩)
    have hD := hS3.done (.int .i64 0) (.string ⟨#[]⟩)
    clear hS3
    go_wp2
    exact ret_cont2 rfl rfl hE rfl ⟨by rw [HV.out]; rfl, hD⟩
end
end Go.Proofs.Ytpjcndfamhehlaa
