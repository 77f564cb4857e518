import Derived.Test.YtbfchlfagdhglaaMG8
import Derived.Test.YtbfchlfagdhglaaMG7
import Derived.Lib.BufferWrite
import Derived.Deep.DeepCutAuto
/- (*set).best. -/
namespace Go.Proofs.Ytbfchlfagdhglaa
open Go.RowKit

theorem asV_good {s : Bs} {f : Nat} (h1 : 1 ≤ f) (h3 : f ≤ 3) : asV s (f : Int) = .tuple #[.agg #[.int .i64 f, .string ⟨(formS s f).toArray⟩], .int .i64 0] := by
  unfold asV
  rw [if_pos (by unfold okF; omega)]; rfl
theorem idx_0 (w : World) : (Instr.index 114 (.agg #[.int .i64 3, .int .i64 2]) (.int .i64 0)).run Try.prog w = .ok (.int .i64 3) w := by
  simp [Instr.index, asIntOf, run_underlying Try.underlying114, Go.part, Try.sizeOf3, Try.isAgg3]
theorem idx_1 (w : World) : (Instr.index 114 (.agg #[.int .i64 3, .int .i64 2]) (.int .i64 1)).run Try.prog w = .ok (.int .i64 2) w := by
  simp [Instr.index, asIntOf, run_underlying Try.underlying114, Go.part, Try.sizeOf3, Try.isAgg3]
/-- The best form of those that have been asked. -/
def bestK (s : Bs) (k : Nat) : Nat := if k = 0 then 1 else if k = 1 then (if (formS s 3).length < (formS s 1).length then 3 else 1) else bestF s
theorem bestK_1 (s : Bs) : bestK s (0 + 1) = if (formS s 3).length < (formS s (bestK s 0)).length then 3 else bestK s 0 := by rfl
theorem bestK_2 (s : Bs) : bestK s (1 + 1) = if (formS s 2).length < (formS s (bestK s 1)).length then 2 else bestK s 1 := by
  have h2 : (formS s 2).length = 32 := bitsTo_length s 256
  show bestF s = if (formS s 2).length < (formS s (if (formS s 3).length < (formS s 1).length then 3 else 1)).length then 2 else (if (formS s 3).length < (formS s 1).length then 3 else 1)
  unfold bestF
  rw [h2]
  by_cases h : (formS s 3).length < (formS s 1).length
  · rw [if_pos h, if_neg (by omega)]
    by_cases h5 : (formS s 3).length ≤ 32
    · rw [if_pos h5, if_neg (by omega)]
    · rw [if_neg h5, if_pos (by omega)]
  · rw [if_neg h]
    by_cases h5 : (formS s 1).length ≤ 32
    · rw [if_pos (by omega), if_neg (by omega)]
    · rw [if_neg (by omega), if_neg (by omega), if_pos (by omega)]
/-- The state of best's walk: the result's cell, the best one's. -/
def BestSt (w : World) (s : Bs) (g k : Nat) (wr : World) : Prop := ResSt w wr ∧ Blk wr g 52 #[.int .i64 (bestK s k : Nat), .string ⟨(formS s (bestK s k)).toArray⟩]
theorem BestSt.under {w wr w2 : World} {s : Bs} {g k : Nat} (h : BestSt w s g k wr) (hb : Below wr.heap.size wr w2) : BestSt w s g k w2 := ⟨h.1.under hb, h.2.under hb⟩
theorem BestSt.put {w wr : World} {s : Bs} {g k k2 : Nat} (h : BestSt w s g k wr) (hg : w.heap.size + 1 ≤ g) {f : Nat} (e : bestK s k2 = f) : BestSt w s g k2 ((wr.setCell ⟨g, 0, none⟩ (.int .i64 f)).setCell ⟨g, 1, none⟩ (.string ⟨(formS s f).toArray⟩)) := by
  subst e
  exact ⟨⟨(h.1.1.far (p := ⟨g, 0, none⟩) (by simp; omega) _).far (p := ⟨g, 1, none⟩) (by simp; omega) _, (h.1.2.setCell (p := ⟨g, 0, none⟩) (by simp; omega) _).setCell (p := ⟨g, 1, none⟩) (by simp; omega) _⟩, h.2.set2 _ _⟩
theorem BestSt.keep {w wr : World} {s : Bs} {g k k2 : Nat} (h : BestSt w s g k wr) (e : bestK s k2 = bestK s k) : BestSt w s g k2 wr := by
  unfold BestSt
  rw [e]; exact h
theorem bestK_pos (s : Bs) (k : Nat) : 1 ≤ bestK s k ∧ bestK s k ≤ 3 := by
  unfold bestK
  split
  · decide
  · split
    · split <;> decide
    · exact bestF_form s

set_option maxRecDepth 100000 in
set_option maxHeartbeats 4000000 in
theorem best_any (B : Nat) (s : Bs) (w : World) (bB : Blk w B 92 (scl s)) :
    Calls Try.prog 59 #[.pointer (some ⟨B, 0, none⟩)] w fun e w' => e = .returned (contV (bestF s : Nat) (bestD s)) ∧ Below w.heap.size w w' := by
  have hS0 := ResSt.start w
  have bB0 := bB.under hS0.2
  have hBlt := bB.lt
  have HS0 := Lib.hid hS0
  have HA1 := Lib.hid (as_any B s 1 (by decide) (by decide) _ bB0)
  rw [show ((1 : Int)) = ((1 : Nat) : Int) from rfl, asV_good (by decide) (by decide)] at HA1
  have HA := Lib.hid (fun (f : Nat) (h1 : 1 ≤ f) (h3 : f ≤ 3) W hW => asV_good (s := s) h1 h3 ▸ as_any B s f (by omega) (by omega) W hW)
  have HB := Lib.hid bB
  have hK0 : bestK s 0 = 1 := rfl
  have HK0 := Lib.hid hK0
  have HD : Hid (contV (bestF s : Nat) (bestD s) = .agg #[.int .i64 (bestK s 2 : Nat), .string ⟨(formS s (bestK s 2)).toArray⟩]) := Lib.hid rfl
  have hidx0 := idx_0
  have hidx1 := idx_1
  clear hS0 bB hK0
  go_enter Try.func59, Try.ntmps59
  go_wp2_with fail
  refine HA1.out.mono ?_
  rintro e w1 ⟨rfl, hb1⟩
  have hS1 := HS0.out.under hb1
  have hg := Blk.new w1 52 #[.int .i64 ((1 : Nat) : Int), .string ⟨(formS s 1).toArray⟩]
  have HS1 : Hid (ResSt w (w1.alloc (.cells #[.int .i64 ((1 : Nat) : Int), .string ⟨(formS s 1).toArray⟩] 52))) := Lib.hid (hS1.under ((Below.refl _ w1).alloc (Nat.le_refl _) _))
  have hgs : w.heap.size + 1 ≤ w1.heap.size := by have := hS1.1.lt; omega
  clear hS1 hb1
  go_wp2
  generalize w1.heap.size = g at *
  have HI : Hid (BestSt w s g 0 (w1.alloc (.cells #[.int .i64 ((1 : Nat) : Int), .string ⟨(formS s 1).toArray⟩] 52))) := Lib.hid ⟨HS1.out, by rw [HK0.out]; exact hg⟩
  clear hg HS1
  go_loopw [15] (fun i wr => ∃ k : Nat, k ≤ 2 ∧ i = .int .i64 k ∧ BestSt w s g k wr) (fun i _ => 2 - (intOf i).toNat)
  case atStart => exact ⟨0, Nat.zero_le _, rfl, HI.out⟩
  case round =>
    obtain ⟨k, hk, rfl, hS⟩ := hrel
    by_cases hlt : k < 2
    · rcases (show k = 0 ∨ k = 1 by omega) with rfl | rfl
      · clear hlt hk
        have HA2 := Lib.hid (HA.out 3 (by decide) (by decide) wr (HB.out.under hS.1.2))
        have HS := Lib.hid hS
        have HK := Lib.hid (bestK_1 s)
        obtain ⟨db, hdb⟩ : ∃ db, db = formS s 3 := ⟨_, rfl⟩
        obtain ⟨dc, hdc⟩ : ∃ dc, dc = formS s (bestK s 0) := ⟨_, rfl⟩
        obtain ⟨q, hq⟩ : ∃ q, q = bestK s 0 := ⟨_, rfl⟩
        have HX : Hid (db = formS s 3 ∧ dc = formS s (bestK s 0) ∧ q = bestK s 0) := Lib.hid ⟨hdb, hdc, hq⟩
        rw [← hdb] at HA2
        clear hS hdb hdc hq
        go_wp2_with fail
        refine HA2.out.mono ?_
        rintro e w2 ⟨rfl, hb2⟩
        have hS2 := HS.out.under hb2
        have hgl := hS2.2.lt
        have hgl2 : g ≠ w2.heap.size := by omega
        have c1 := hS2.2.cell 1; have c0 := hS2.2.cell 0; have f0 := hS2.2.frozen 0; have f1 := hS2.2.frozen 1
        dsimp at c0 c1
        rw [← HX.out.2.1] at c1
        rw [← HX.out.2.2] at c0
        have HS3 := Lib.hid hS2
        clear hS2 hb2
        by_cases hlt : db.length < dc.length
        · have HP := Lib.hid ((HS3.out.put hgs (k2 := 0 + 1) (f := 3) (by rw [HK.out, ← HX.out.1, ← HX.out.2.1, if_pos hlt])).under ((Below.refl _ _).alloc (Nat.le_refl _) (.cells #[.int .i64 3, .string ⟨db.toArray⟩] 52)))
          have hlt' : (db.length : Int) < dc.length := by omega
          rw [← HX.out.1] at HP
          go_wp2
          refine ⟨⟨1, by omega, by simp, HP.out⟩, by simp [intOf]⟩
        · have HP := Lib.hid ((HS3.out.keep (k2 := 0 + 1) (by rw [HK.out, ← HX.out.1, ← HX.out.2.1, if_neg hlt])).under ((Below.refl _ _).alloc (Nat.le_refl _) (.cells #[.int .i64 3, .string ⟨db.toArray⟩] 52)))
          have hlt' : ¬ (db.length : Int) < dc.length := by omega
          go_wp2
          refine ⟨⟨1, by omega, by simp, HP.out⟩, by simp [intOf]⟩
      · clear hlt hk
        have HA2 := Lib.hid (HA.out 2 (by decide) (by decide) wr (HB.out.under hS.1.2))
        have HS := Lib.hid hS
        have HK := Lib.hid (bestK_2 s)
        obtain ⟨db, hdb⟩ : ∃ db, db = formS s 2 := ⟨_, rfl⟩
        obtain ⟨dc, hdc⟩ : ∃ dc, dc = formS s (bestK s 1) := ⟨_, rfl⟩
        obtain ⟨q, hq⟩ : ∃ q, q = bestK s 1 := ⟨_, rfl⟩
        have HX : Hid (db = formS s 2 ∧ dc = formS s (bestK s 1) ∧ q = bestK s 1) := Lib.hid ⟨hdb, hdc, hq⟩
        rw [← hdb] at HA2
        clear hS hdb hdc hq
        go_wp2_with fail
        refine HA2.out.mono ?_
        rintro e w2 ⟨rfl, hb2⟩
        have hS2 := HS.out.under hb2
        have hgl := hS2.2.lt
        have hgl2 : g ≠ w2.heap.size := by omega
        have c1 := hS2.2.cell 1; have c0 := hS2.2.cell 0; have f0 := hS2.2.frozen 0; have f1 := hS2.2.frozen 1
        dsimp at c0 c1
        rw [← HX.out.2.1] at c1
        rw [← HX.out.2.2] at c0
        have HS3 := Lib.hid hS2
        clear hS2 hb2
        by_cases hlt : db.length < dc.length
        · have HP := Lib.hid ((HS3.out.put hgs (k2 := 1 + 1) (f := 2) (by rw [HK.out, ← HX.out.1, ← HX.out.2.1, if_pos hlt])).under ((Below.refl _ _).alloc (Nat.le_refl _) (.cells #[.int .i64 2, .string ⟨db.toArray⟩] 52)))
          have hlt' : (db.length : Int) < dc.length := by omega
          rw [← HX.out.1] at HP
          go_wp2
          refine ⟨⟨2, by omega, by simp, HP.out⟩, by simp [intOf]⟩
        · have HP := Lib.hid ((HS3.out.keep (k2 := 1 + 1) (by rw [HK.out, ← HX.out.1, ← HX.out.2.1, if_neg hlt])).under ((Below.refl _ _).alloc (Nat.le_refl _) (.cells #[.int .i64 2, .string ⟨db.toArray⟩] 52)))
          have hlt' : ¬ (db.length : Int) < dc.length := by omega
          go_wp2
          refine ⟨⟨2, by omega, by simp, HP.out⟩, by simp [intOf]⟩
    · obtain rfl : k = 2 := by omega
      have c0 := hS.2.cell 0; have c1 := hS.2.cell 1
      have d0 := hS.1.1.cell 0; have d1 := hS.1.1.cell 1; have f0 := hS.1.1.frozen 0; have f1 := hS.1.1.frozen 1
      dsimp at c0 c1 d0 d1
      have hD := hS.1.done (.int .i64 (bestK s 2 : Nat)) (.string ⟨(formS s (bestK s 2)).toArray⟩)
      clear hS hlt hk
      generalize bestK s 2 = q at *
      generalize formS s q = dq at *
      go_wp2
      exact ret_cont rfl rfl hD.1 rfl ⟨by rw [HD.out], hD.2⟩
end Go.Proofs.Ytbfchlfagdhglaa
/- cont.read. -/
namespace Go.Proofs.Ytbfchlfagdhglaa
open Go.RowKit

/-- The numbers that a value has as a container. -/
def readS (f : Int) (d : List UInt8) : Bs := if RightC f d then setOf f.toNat d else fun _ => false
def readV (f : Int) (d : List UInt8) : Value := .tuple #[.agg (scl (readS f d)), .bool (decide (RightC f d))]

theorem byteS_setB (d : List UInt8) (k : Nat) (hk : k < 32) : byteS (setB d) 256 k = byteC d k := by
  refine (byteS_ext hk (byteC_lt d k) fun i hi => ?_).symm
  rw [bit_at d k i hi, Nat.testBit_eq_decide_div_mod_eq]
  rw [Bool.eq_iff_iff, decide_eq_true_eq, beq_iff_eq]
theorem scl_bytes (d : List UInt8) (n : Nat) (hn : n = min d.length 32) : ((scl fun _ => false).toList.take 0 ++ (byteVs d).take n ++ (scl fun _ => false).toList.drop n).toArray = scl (setB d) := by
  have hz : (scl fun _ => false) = Array.replicate 32 (Value.int .u8 0) := scl_zero.symm
  rw [hz]
  refine scl_ext ?_ fun k hk => ?_
  · simp [byteVs_length]; omega
  · rw [byteS_setB d k hk]
    simp only [List.take_zero, List.nil_append, List.getElem?_toArray]
    by_cases h : k < n
    · rw [List.getElem?_append_left (by simp [byteVs_length]; omega), List.getElem?_take, if_pos h]
      unfold byteVs byteC
      rw [List.getElem?_map, List.getElem?_eq_getElem (by omega)]; rfl
    · have hl : ((byteVs d).take n).length = n := by simp [byteVs_length]; omega
      rw [List.getElem?_append_right (by omega), hl, List.getElem?_drop]
      have e : n + (k - n) = k := by omega
      unfold byteC
      rw [List.getElem?_eq_none (l := d) (by omega), e, Array.toList_replicate, List.getElem?_replicate, if_pos hk]; rfl
theorem run_copy_set {w : World} {B : Nat} (h : Blk w B 92 (scl fun _ => false)) (d : List UInt8) (ty : TypeId) :
    (Builtin.copy_ #[84, 9] ty #[.slice (some ⟨B, 0, none⟩) 32 32, .string ⟨d.toArray⟩]).run Try.prog w = .ok (goInt ((min d.length 32 : Nat) : Int)) (w.setRow B (scl (setB d))) := by
  obtain ⟨i0, hi, hz0, hz1, hz2⟩ := info_parts info_u8
  have hl : ((byteVs d).take (min d.length 32)).length = min d.length 32 := by simp [byteVs_length]
  have hst := run_storeCells_at Try.prog B 0 92 ((byteVs d).take (min d.length 32)) 0 (scl fun _ => false) w h (by rw [hl, scl_size]; omega) (fun v hv => by
    obtain ⟨y, _, rfl⟩ := List.mem_map.1 (List.mem_of_mem_take hv); rfl)
  rw [hl] at hst
  simp only [Nat.add_zero, Nat.zero_add] at hst
  rw [scl_bytes d _ rfl] at hst
  have hs2 : (ByteArray.mk d.toArray).size = d.length := by simp [ByteArray.size]
  have e : List.take (min d.length 32) (List.map (fun b : UInt8 => Value.int IntKind.u8 (b.toNat : Int)) d) = (byteVs d).take (min d.length 32) := rfl
  simp [Builtin.copy_, run_underlying Try.underlying84, Builtin.lenOf, Builtin.firstCells, sizeOf, typeInfo, hi, hs2]
  rw [e, hst]
  simp [Result.andThen, Nat.min_def]
/-- The walk's blocks: the container's, the result's, the set's. -/
def ReadSt (w : World) (f : Int) (d : List UInt8) (s : Bs) (wr : World) : Prop := Blk wr w.heap.size 52 #[.int .i64 f, .string ⟨d.toArray⟩] ∧ Blk wr (w.heap.size + 1) 92 (scl fun _ => false) ∧ Blk wr (w.heap.size + 1 + 1) 92 (scl s) ∧ Below w.heap.size w wr
theorem ReadSt.start (w : World) (f : Int) (d : List UInt8) : ReadSt w f d (fun _ => false) (((w.alloc (.cells #[.int .i64 f, .string ⟨d.toArray⟩] 52)).alloc (.cells (scl fun _ => false) 92)).alloc (.cells (scl fun _ => false) 92)) := by
  refine ⟨((Blk.new w _ _).alloc _).alloc _, ?_, ?_, ?_⟩
  · have := (Blk.new (w.alloc (.cells #[.int .i64 f, .string ⟨d.toArray⟩] 52)) 92 (scl fun _ => false)).alloc (.cells (scl fun _ => false) 92)
    rwa [World.size_alloc] at this
  · have := Blk.new ((w.alloc (.cells #[.int .i64 f, .string ⟨d.toArray⟩] 52)).alloc (.cells (scl fun _ => false) 92)) 92 (scl fun _ => false)
    rwa [World.size_alloc, World.size_alloc] at this
  · exact (((Below.refl _ _).alloc (Nat.le_refl _) _).alloc (by simp) _).alloc (by simp; omega) _
theorem ReadSt.under {w wr w2 : World} {f : Int} {d : List UInt8} {s : Bs} (h : ReadSt w f d s wr) (hb : Below wr.heap.size wr w2) : ReadSt w f d s w2 :=
  ⟨h.1.under hb, h.2.1.under hb, h.2.2.1.under hb, h.2.2.2.trans (hb.mono h.2.2.2.size)⟩
theorem ReadSt.turn {w wr w2 : World} {f : Int} {d : List UInt8} {s t : Bs} (h : ReadSt w f d s wr) (hg : wr.grownBy w2 (some (w.heap.size + 1 + 1))) (hb : Blk w2 (w.heap.size + 1 + 1) 92 (scl t)) : ReadSt w f d t w2 :=
  ⟨h.1.grown hg (by omega), h.2.1.grown hg (by omega), hb, h.2.2.2.trans (grown_below hg (by omega) h.2.2.2.size)⟩
theorem grown_setRow {w : World} {g : Nat} (cs : Array Value) : w.grownBy (w.setRow g cs) (some g) :=
  ⟨rfl, rfl, rfl, by simp [World.setRow], fun k _ hk => by
    have : ¬ g = k := fun e => hk (by rw [e])
    simp [World.setRow, Array.getElem?_modify, this]⟩
theorem ReadSt.row {w wr : World} {f : Int} {d : List UInt8} {s t : Bs} (h : ReadSt w f d s wr) : ReadSt w f d t (wr.setRow (w.heap.size + 1 + 1) (scl t)) := h.turn (grown_setRow _) (h.2.2.1.setRow _)
theorem ReadSt.drew {w wr : World} {f : Int} {d : List UInt8} {s : Bs} (h : ReadSt w f d s wr) : ReadSt w f d s wr.drew := ⟨h.1, h.2.1, h.2.2.1, h.2.2.2.drew⟩
/-- The result's cell is filled. -/
theorem ReadSt.done {w wr : World} {f : Int} {d : List UInt8} {s : Bs} (h : ReadSt w f d s wr) (t : Bs) : Blk (wr.setRow (w.heap.size + 1) (scl t)) (w.heap.size + 1) 92 (scl t) ∧ Below w.heap.size w (wr.setRow (w.heap.size + 1) (scl t)) :=
  ⟨h.2.1.setRow _, below_setRow h.2.2.2 (by omega) _⟩

theorem read_yes {f : Int} {d : List UInt8} {s : Bs} (hf : okF f) (hl : d.length ≤ 256) (hs : Same s (setOf f.toNat d)) (he : formS s f.toNat = d) : readV f d = .tuple #[.agg (scl s), .bool true] := by
  have hR : RightC f d := ⟨hf.1, hf.2, hl, by rw [← form_congr hs]; exact he.symm⟩
  unfold readV readS
  rw [if_pos hR, scl_congr hs.symm, decide_eq_true hR]
theorem read_no {f : Int} {d : List UInt8} (hR : ¬ RightC f d) : readV f d = .tuple #[.agg (scl fun _ => false), .bool false] := by
  unfold readV readS
  rw [if_neg hR, decide_eq_false hR]
theorem read_ne {f : Int} {d : List UInt8} {s : Bs} (hs : Same s (setOf f.toNat d)) (he : ¬ formS s f.toNat = d) : readV f d = .tuple #[.agg (scl fun _ => false), .bool false] :=
  read_no fun h => he (by rw [form_congr hs]; exact h.2.2.2.symm)

set_option maxRecDepth 100000 in
set_option maxHeartbeats 4000000 in
theorem read_any (f : Int) (hf1 : -9223372036854775808 ≤ f) (hf2 : f ≤ 9223372036854775807) (d : List UInt8) (hd : d.length ≤ 9223372036854775807) (w : World) :
    Calls Try.prog 54 #[contV f d] w fun e w' => e = .returned (readV f d) ∧ Below w.heap.size w w' := by
  have hz := zero_set
  have hss := scl_size
  have hT0 := ReadSt.start w f d
  unfold contV
  by_cases hbig : 256 < d.length
  · have hbig' : (256 : Int) < d.length := by omega
    have HR := Lib.hid (read_no (f := f) (d := d) (fun h => by have := h.2.2.1; omega))
    have hB2 : Blk ((w.alloc (.cells #[.int .i64 f, .string ⟨d.toArray⟩] 52)).alloc (.cells (scl fun _ => false) 92)) (w.heap.size + 1) 92 (scl fun _ => false) := by
      have := Blk.new (w.alloc (.cells #[.int .i64 f, .string ⟨d.toArray⟩] 52)) 92 (scl fun _ => false)
      rwa [World.size_alloc] at this
    have hb : Below w.heap.size w ((w.alloc (.cells #[.int .i64 f, .string ⟨d.toArray⟩] 52)).alloc (.cells (scl fun _ => false) 92)) := ((Below.refl _ _).alloc (Nat.le_refl _) _).alloc (by simp) _
    have hsc := st_cells hB2 (fun _ => false)
    have hE1 := hB2.setRow (scl fun _ => false)
    have hE2 := below_setRow hb (g := w.heap.size + 1) (by omega) (scl fun _ => false)
    clear hT0 hb hB2
    go_enter Try.func54, Try.ntmps54
    go_wp2
    exact ret_set2 rfl rfl hE1 rfl ⟨by rw [HR.out]; rfl, hE2⟩
  · have hbig' : ¬ (256 : Int) < d.length := by omega
    by_cases h2 : f = 2
    · subst h2
      have HAs := Lib.hid (fun W hW => asV_good (s := setB d) (f := 2) (by decide) (by decide) ▸ as_any (w.heap.size + 1 + 1) (setB d) 2 (by decide) (by decide) W hW)
      have HRd : Hid ((formS (setB d) 2 = d → readV 2 d = .tuple #[.agg (scl (setB d)), .bool true]) ∧ (¬ formS (setB d) 2 = d → readV 2 d = .tuple #[.agg (scl fun _ => false), .bool false])) :=
        Lib.hid ⟨fun he => read_yes (by decide) (by omega) (fun _ _ => rfl) he, fun he => read_ne (s := setB d) (fun _ _ => rfl) he⟩
      obtain ⟨dx, hdx⟩ : ∃ dx, dx = formS (setB d) 2 := ⟨_, rfl⟩
      rw [← hdx] at HAs HRd
      clear hdx
      have hcp := run_copy_set hT0.drew.2.2.1 d 3
      have HTr := Lib.hid (hT0.drew.row (t := setB d))
      have hT0c := hT0.1.cell 1
      dsimp at hT0c
      clear hT0
      go_enter Try.func54, Try.ntmps54
      go_wp2
      go_region
      all_goals
        have hT := HTr.out
        clear hcp hT0c HTr
        generalize (((w.alloc (.cells #[.int .i64 2, .string ⟨d.toArray⟩] 52)).alloc (.cells (scl fun _ => false) 92)).alloc (.cells (scl fun _ => false) 92)).drew.setRow (w.heap.size + 1 + 1) (scl (setB d)) = w2 at *
        have c0 := hT.1.cell 0; have c1 := hT.1.cell 1
        dsimp at c0 c1
        go_wp2_with fail
        refine (HAs.out _ hT.2.2.1).mono ?_
        rintro e w5 ⟨rfl, hb5⟩
        have hT5 := hT.under hb5
        have hT6 := hT5.under ((Below.refl _ w5).alloc (Nat.le_refl _) (.cells #[.int .i64 2, .string ⟨dx.toArray⟩] 52))
        have c0 := hT6.1.cell 0; have c1 := hT6.1.cell 1
        dsimp at c0 c1
        have hsz5 := hT5.1.lt
        clear hT5 hb5 hT
        by_cases he : dx = d
        · have hsc := st_cells hT6.2.1 (setB d)
          have hE := hT6.done (setB d)
          have hld := hT6.2.2.1
          have HR := Lib.hid (HRd.out.1 he)
          clear hT6
          subst he
          go_wp2_with (refine wpList_ld_set rfl _ rfl _ rfl _ hld ?_)
          exact ret_set2 rfl rfl hE.1 rfl ⟨by rw [HR.out]; rfl, hE.2⟩
        · have hsc := st_cells hT6.2.1 (fun _ => false)
          have hE := hT6.done (fun _ => false)
          have HR := Lib.hid (HRd.out.2 he)
          clear hT6
          go_wp2
          exact ret_set2 rfl rfl hE.1 rfl ⟨by rw [HR.out]; rfl, hE.2⟩
    by_cases h1 : f = 1
    · subst h1
      have HAs := Lib.hid (fun W hW => asV_good (s := setA d) (f := 1) (by decide) (by decide) ▸ as_any (w.heap.size + 1 + 1) (setA d) 1 (by decide) (by decide) W hW)
      have HRd : Hid ((formS (setA d) 1 = d → readV 1 d = .tuple #[.agg (scl (setA d)), .bool true]) ∧ (¬ formS (setA d) 1 = d → readV 1 d = .tuple #[.agg (scl fun _ => false), .bool false])) :=
        Lib.hid ⟨fun he => read_yes (by decide) (by omega) (fun _ _ => rfl) he, fun he => read_ne (s := setA d) (fun _ _ => rfl) he⟩
      obtain ⟨dx, hdx⟩ : ∃ dx, dx = formS (setA d) 1 := ⟨_, rfl⟩
      rw [← hdx] at HAs HRd
      clear hdx
      have HAl := Lib.hid (alone_any d (by omega) (((w.alloc (.cells #[.int .i64 1, .string ⟨d.toArray⟩] 52)).alloc (.cells (scl fun _ => false) 92)).alloc (.cells (scl fun _ => false) 92)))
      have hal := aloneB_length d
      have HPr := Lib.hid (fun W hW => putRuns_any (w.heap.size + 1 + 1) (fun _ => false) (aloneB d) (by omega) W hW)
      rw [none_or, setR_alone] at HPr
      have HT0 := Lib.hid hT0
      clear hT0 h2
      generalize aloneB d = al at *
      go_enter Try.func54, Try.ntmps54
      go_wp2_with fail
      refine HAl.out.mono ?_
      rintro e w1 ⟨rfl, hb1⟩
      have hT1 := HT0.out.under hb1
      clear hb1
      go_wp2_with fail
      refine (HPr.out _ hT1.2.2.1).mono ?_
      rintro e w2 ⟨⟨v, rfl⟩, hg2, hb2⟩
      have hT := hT1.turn hg2 hb2
      clear hT1 hg2 hb2
      have c0 := hT.1.cell 0; have c1 := hT.1.cell 1
      dsimp at c0 c1
      go_wp2_with fail
      refine (HAs.out _ hT.2.2.1).mono ?_
      rintro e w5 ⟨rfl, hb5⟩
      have hT5 := hT.under hb5
      have hT6 := hT5.under ((Below.refl _ w5).alloc (Nat.le_refl _) (.cells #[.int .i64 1, .string ⟨dx.toArray⟩] 52))
      have c0 := hT6.1.cell 0; have c1 := hT6.1.cell 1
      dsimp at c0 c1
      have hsz5 := hT5.1.lt
      clear hT5 hb5 hT
      by_cases he : dx = d
      · have hsc := st_cells hT6.2.1 (setA d)
        have hE := hT6.done (setA d)
        have hld := hT6.2.2.1
        have HR := Lib.hid (HRd.out.1 he)
        clear hT6
        subst he
        go_wp2_with (refine wpList_ld_set rfl _ rfl _ rfl _ hld ?_)
        exact ret_set2 rfl rfl hE.1 rfl ⟨by rw [HR.out]; rfl, hE.2⟩
      · have hsc := st_cells hT6.2.1 (fun _ => false)
        have hE := hT6.done (fun _ => false)
        have HR := Lib.hid (HRd.out.2 he)
        clear hT6
        go_wp2
        exact ret_set2 rfl rfl hE.1 rfl ⟨by rw [HR.out]; rfl, hE.2⟩
    by_cases h3 : f = 3
    · subst h3
      have HAs := Lib.hid (fun W hW => asV_good (s := setR d) (f := 3) (by decide) (by decide) ▸ as_any (w.heap.size + 1 + 1) (setR d) 3 (by decide) (by decide) W hW)
      have HRd : Hid ((formS (setR d) 3 = d → readV 3 d = .tuple #[.agg (scl (setR d)), .bool true]) ∧ (¬ formS (setR d) 3 = d → readV 3 d = .tuple #[.agg (scl fun _ => false), .bool false])) :=
        Lib.hid ⟨fun he => read_yes (by decide) (by omega) (fun _ _ => rfl) he, fun he => read_ne (s := setR d) (fun _ _ => rfl) he⟩
      obtain ⟨dx, hdx⟩ : ∃ dx, dx = formS (setR d) 3 := ⟨_, rfl⟩
      rw [← hdx] at HAs HRd
      clear hdx
      have HPr := Lib.hid (fun W hW => putRuns_any (w.heap.size + 1 + 1) (fun _ => false) d (by omega) W hW)
      rw [none_or] at HPr
      have HT0 := Lib.hid hT0
      clear hT0 h2 h1
      go_enter Try.func54, Try.ntmps54
      go_wp2_with fail
      refine (HPr.out _ HT0.out.2.2.1).mono ?_
      rintro e w2 ⟨⟨v, rfl⟩, hg2, hb2⟩
      have hT := HT0.out.turn hg2 hb2
      clear hg2 hb2
      have c0 := hT.1.cell 0; have c1 := hT.1.cell 1
      dsimp at c0 c1
      go_wp2_with fail
      refine (HAs.out _ hT.2.2.1).mono ?_
      rintro e w5 ⟨rfl, hb5⟩
      have hT5 := hT.under hb5
      have hT6 := hT5.under ((Below.refl _ w5).alloc (Nat.le_refl _) (.cells #[.int .i64 3, .string ⟨dx.toArray⟩] 52))
      have c0 := hT6.1.cell 0; have c1 := hT6.1.cell 1
      dsimp at c0 c1
      have hsz5 := hT5.1.lt
      clear hT5 hb5 hT
      by_cases he : dx = d
      · have hsc := st_cells hT6.2.1 (setR d)
        have hE := hT6.done (setR d)
        have hld := hT6.2.2.1
        have HR := Lib.hid (HRd.out.1 he)
        clear hT6
        subst he
        go_wp2_with (refine wpList_ld_set rfl _ rfl _ rfl _ hld ?_)
        exact ret_set2 rfl rfl hE.1 rfl ⟨by rw [HR.out]; rfl, hE.2⟩
      · have hsc := st_cells hT6.2.1 (fun _ => false)
        have hE := hT6.done (fun _ => false)
        have HR := Lib.hid (HRd.out.2 he)
        clear hT6
        go_wp2
        exact ret_set2 rfl rfl hE.1 rfl ⟨by rw [HR.out]; rfl, hE.2⟩
    have h1' : (f == 1) = false := by simpa using h1
    have h2' : (f == 2) = false := by simpa using h2
    have h3' : (f == 3) = false := by simpa using h3
    have HV : Hid (asV (fun _ => false) f = .tuple #[.agg #[.int .i64 0, .string ⟨#[]⟩], .int .i64 60]) := Lib.hid (by unfold asV; rw [if_neg (by unfold okF; omega)]; rfl)
    have HAs := Lib.hid (HV.out ▸ as_any (w.heap.size + 1 + 1) (fun _ => false) f hf1 hf2 _ hT0.2.2.1)
    have HR := Lib.hid (read_no (f := f) (d := d) (fun h => by have := h.1; have := h.2.1; omega))
    have HT0 := Lib.hid hT0
    clear hT0 h1 h2 h3
    go_enter Try.func54, Try.ntmps54
    go_wp2_with fail
    refine HAs.out.mono ?_
    rintro e w5 ⟨rfl, hb5⟩
    have hT6 := (HT0.out.under hb5).under ((Below.refl _ w5).alloc (Nat.le_refl _) (.cells #[.int .i64 0, .string ⟨#[]⟩] 52))
    have hsc := st_cells hT6.2.1 (fun _ => false)
    have hE := hT6.done (fun _ => false)
    have hsz5 := (HT0.out.under hb5).1.lt
    clear hT6 hb5
    go_wp2
    exact ret_set2 rfl rfl hE.1 rfl ⟨by rw [HR.out]; rfl, hE.2⟩
end Go.Proofs.Ytbfchlfagdhglaa
