/- cont.Right, Count, Make, As. -/
import Derived.Test.YtpjcndfamhehlaaCRead
namespace Go.Proofs.Ytpjcndfamhehlaa
open Go.RowKit

theorem setRow_new (w : World) (t : TypeId) (a b : Array Value) : (w.alloc (.cells a t)).setRow w.heap.size b = w.alloc (.cells b t) := by
  unfold World.setRow
  cases w with
  | mk heap tape drawn os output =>
    simp only [World.alloc, World.mk.injEq, and_true]
    apply Array.ext_getElem?
    intro k
    rw [Array.getElem?_modify, Array.getElem?_push, Array.getElem?_push]
    by_cases e : heap.size = k
    · subst e; simp
    · rw [if_neg e, if_neg (fun h => e h.symm), if_neg (fun h => e h.symm)]
theorem st_new (w : World) (t : Bs) : (storeCells ⟨w.heap.size, 0, none⟩ (scl t).toList).run Try.prog (w.alloc (.cells (scl fun _ => false) 48)) = .ok () (w.alloc (.cells (scl t) 48)) := by
  rw [st_cells (Blk.new w 48 _) t, setRow_new]

section
variable (f : Int) (hf1 : -9223372036854775808 ≤ f) (hf2 : f ≤ 9223372036854775807) (d : List UInt8) (hd : d.length ≤ 9223372036854775807) (w : World)
include hf1 hf2 hd

set_option maxRecDepth 100000 in
theorem right_any : Calls Try.prog 19 #[contV f d] w fun e w' => e = .returned (.bool (decide (RightC f d))) ∧ Below w.heap.size w w' := by
  have hz := zero_set
  have hss := scl_size
  have hst := st_new
  have hB0 := (Below.refl _ w).alloc (Nat.le_refl _) (.cells #[.int .i64 f, .string ⟨d.toArray⟩] 23)
  have HR := Lib.hid (read_any f hf1 hf2 d hd (w.alloc (.cells #[.int .i64 f, .string ⟨d.toArray⟩] 23)))
  unfold readV contV at HR
  unfold contV
  generalize readS f d = s at *
  generalize decide (RightC f d) = b at *
  go_enter Try.func19, Try.ntmps19
  go_wp2_with fail
  refine HR.out.mono ?_
  rintro e w1 ⟨rfl, hb1⟩
  have hB1 := hB0.trans (hb1.mono hB0.size)
  have hB2 := hB1.alloc hB1.size (.cells (scl s) 48)
  go_wp2
  go_ret
  exact ⟨rfl, hB2⟩

set_option maxRecDepth 100000 in
theorem countC_any : Calls Try.prog 23 #[contV f d] w fun e w' => e = .returned (.int .i64 ((vals (readS f d)).length : Nat)) ∧ Below w.heap.size w w' := by
  have hz := zero_set
  have hss := scl_size
  have hst := st_new
  have hB0 := (Below.refl _ w).alloc (Nat.le_refl _) (.cells #[.int .i64 f, .string ⟨d.toArray⟩] 23)
  have HR := Lib.hid (read_any f hf1 hf2 d hd (w.alloc (.cells #[.int .i64 f, .string ⟨d.toArray⟩] 23)))
  unfold readV contV at HR
  unfold contV
  generalize readS f d = s at *
  generalize decide (RightC f d) = b at *
  go_enter Try.func23, Try.ntmps23
  go_wp2_with fail
  refine HR.out.mono ?_
  rintro e w1 ⟨rfl, hb1⟩
  have hB1 := hB0.trans (hb1.mono hB0.size)
  have hB2 := hB1.alloc hB1.size (.cells (scl s) 48)
  have HC := Lib.hid (count_any w1.heap.size s _ (Blk.new w1 48 (scl s)))
  go_wp2_with fail
  refine HC.out.mono ?_
  rintro e w2 ⟨rfl, hb2⟩
  have hB3 := hB2.trans (hb2.mono hB2.size)
  go_wp2
  go_ret
  exact ⟨rfl, hB3⟩

/-- What As answers. -/
def asCV (f : Int) (d : List UInt8) (g : Int) : Value := if RightC f d ∧ okF g then .tuple #[contV g (formS (setOf f.toNat d) g.toNat), .int .i64 0] else .tuple #[contV 0 [], .int .i64 60]
omit hf1 hf2 hd in
theorem asCV_yes {f g : Int} {d : List UInt8} (h : RightC f d) : asCV f d g = asV (readS f d) g := by
  unfold asCV asV readS
  rw [if_pos h]
  by_cases hg : okF g
  · rw [if_pos ⟨h, hg⟩, if_pos hg]
  · rw [if_neg (fun h => hg h.2), if_neg hg]
omit hf1 hf2 hd in
theorem asCV_no {f g : Int} {d : List UInt8} (h : ¬ RightC f d) : asCV f d g = .tuple #[.agg #[.int .i64 0, .string ⟨#[]⟩], .int .i64 60] := by
  unfold asCV
  rw [if_neg (fun e => h e.1)]; rfl
omit hf1 hf2 hd in
/-- It is a pair of a container and a number. -/
theorem asV_form (s : Bs) (g : Int) : ∃ (x : Int) (y : List UInt8) (z : Int), asV s g = .tuple #[.agg #[.int .i64 x, .string ⟨y.toArray⟩], .int .i64 z] := by
  unfold asV
  split
  · exact ⟨_, _, _, rfl⟩
  · exact ⟨_, _, _, rfl⟩

set_option maxRecDepth 100000 in
set_option maxHeartbeats 1000000 in
theorem asC_any (g : Int) (hg1 : -9223372036854775808 ≤ g) (hg2 : g ≤ 9223372036854775807) : Calls Try.prog 30 #[contV f d, .int .i64 g] w fun e w' => e = .returned (asCV f d g) ∧ Below w.heap.size w w' := by
  have hz := zero_set
  have hss := scl_size
  have hst := st_new
  have hB0 : Below w.heap.size w ((w.alloc (.cells #[.int .i64 f, .string ⟨d.toArray⟩] 23)).alloc (.cells #[.int .i64 0, .string ⟨#[]⟩] 23)) := ((Below.refl _ w).alloc (Nat.le_refl _) _).alloc (by simp) _
  have bR : Blk ((w.alloc (.cells #[.int .i64 f, .string ⟨d.toArray⟩] 23)).alloc (.cells #[.int .i64 0, .string ⟨#[]⟩] 23)) (w.heap.size + 1) 23 #[.int .i64 0, .string ⟨#[]⟩] := by
    have := Blk.new (w.alloc (.cells #[.int .i64 f, .string ⟨d.toArray⟩] 23)) 23 #[.int .i64 0, .string ⟨#[]⟩]
    rwa [World.size_alloc] at this
  have HR := Lib.hid (read_any f hf1 hf2 d hd ((w.alloc (.cells #[.int .i64 f, .string ⟨d.toArray⟩] 23)).alloc (.cells #[.int .i64 0, .string ⟨#[]⟩] 23)))
  unfold readV contV at HR
  have HY : Hid (RightC f d → asCV f d g = asV (readS f d) g) := Lib.hid asCV_yes
  have HN : Hid (¬ RightC f d → asCV f d g = .tuple #[.agg #[.int .i64 0, .string ⟨#[]⟩], .int .i64 60]) := Lib.hid asCV_no
  unfold contV
  generalize readS f d = s at *
  generalize asCV f d g = av at *
  by_cases hr : RightC f d
  · rw [decide_eq_true hr] at HR
    have HV := Lib.hid (HY.out hr)
    clear HY HN hr
    obtain ⟨x, y, z, hxyz⟩ := asV_form s g
    go_enter Try.func30, Try.ntmps30
    go_wp2_with fail
    refine HR.out.mono ?_
    rintro e w1 ⟨rfl, hb1⟩
    have hB1 := hB0.trans (hb1.mono hB0.size)
    have bR1 := bR.under hb1
    have HA := Lib.hid (as_any w1.heap.size s g hg1 hg2 _ (Blk.new w1 48 (scl s)))
    have hB2 := hB1.alloc hB1.size (.cells (scl s) 48)
    have bR2 := bR1.alloc (.cells (scl s) 48)
    rw [hxyz] at HA
    clear bR bR1
    go_wp2_with fail
    refine HA.out.mono ?_
    rintro e w2 ⟨rfl, hb2⟩
    have hB3 := hB2.trans (hb2.mono hB2.size)
    have bR3 := bR2.under hb2
    have c0 := bR3.cell 0; have c1 := bR3.cell 1; have f0 := bR3.frozen 0; have f1 := bR3.frozen 1
    dsimp at c0 c1
    have hE := bR3.set2 (.int .i64 x) (.string ⟨y.toArray⟩)
    have hB4 := (hB3.setCell (p := ⟨w.heap.size + 1, 0, none⟩) (by simp) (.int .i64 x)).setCell (p := ⟨w.heap.size + 1, 1, none⟩) (by simp) (.string ⟨y.toArray⟩)
    clear bR2 bR3
    go_wp2
    exact ret_cont2 rfl rfl hE rfl ⟨by rw [HV.out, hxyz]; rfl, hB4⟩
  · rw [decide_eq_false hr] at HR
    have HV := Lib.hid (HN.out hr)
    clear HY HN hr
    go_enter Try.func30, Try.ntmps30
    go_wp2_with fail
    refine HR.out.mono ?_
    rintro e w1 ⟨rfl, hb1⟩
    have hB1 := hB0.trans (hb1.mono hB0.size)
    have bR1 := bR.under hb1
    have hB2 := hB1.alloc hB1.size (.cells (scl s) 48)
    have bR2 := bR1.alloc (.cells (scl s) 48)
    have c0 := bR1.cell 0; have c1 := bR1.cell 1; have f0 := bR1.frozen 0; have f1 := bR1.frozen 1
    dsimp at c0 c1
    have hlt := bR1.lt
    have hE := (bR1.set2 (.int .i64 0) (.string ⟨#[]⟩)).alloc (.cells (scl s) 48)
    have hB4 := ((hB1.setCell (p := ⟨w.heap.size + 1, 0, none⟩) (by simp) (.int .i64 0)).setCell (p := ⟨w.heap.size + 1, 1, none⟩) (by simp) (.string ⟨#[]⟩)).alloc (by have := hB1.size; simp; omega) (.cells (scl s) 48)
    clear bR bR1 bR2
    go_wp2
    exact ret_cont2 rfl rfl hE rfl ⟨by rw [HV.out]; rfl, hB4⟩
end
end Go.Proofs.Ytpjcndfamhehlaa
