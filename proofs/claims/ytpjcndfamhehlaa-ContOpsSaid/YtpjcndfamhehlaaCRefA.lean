/- The document's answers: As and Make. -/
import Derived.Test.YtpjcndfamhehlaaCRefR
namespace Go.Proofs.Ytpjcndfamhehlaa
open Go.RowKit

/-- The boxed container and the result's cell. -/
def TwoSt (w : World) (x y : Value) (W : World) : Prop := Blk W w.heap.size 23 #[x, y] ∧ Blk W (w.heap.size + 1) 23 #[.int .i64 0, .string ⟨#[]⟩] ∧ Below w.heap.size w W
theorem TwoSt.start (w : World) (x y : Value) : TwoSt w x y ((w.alloc (.cells #[x, y] 23)).alloc (.cells #[.int .i64 0, .string ⟨#[]⟩] 23)) :=
  ⟨(Blk.new w _ _).alloc _, by simpa using Blk.new (w.alloc (.cells #[x, y] 23)) 23 #[.int .i64 0, .string ⟨#[]⟩], ((Below.refl _ w).alloc (Nat.le_refl _) _).alloc (by simp) _⟩
theorem TwoSt.under {w wr w2 : World} {x y : Value} (h : TwoSt w x y wr) (hb : Below wr.heap.size wr w2) : TwoSt w x y w2 :=
  ⟨h.1.under hb, h.2.1.under hb, h.2.2.trans (hb.mono h.2.2.size)⟩
theorem TwoSt.done {w wr : World} {x y : Value} (h : TwoSt w x y wr) (a b : Value) : Below w.heap.size w ((wr.setCell ⟨w.heap.size + 1, 0, none⟩ a).setCell ⟨w.heap.size + 1, 1, none⟩ b) :=
  (h.2.2.setCell (by simp) _).setCell (by simp) _

section
variable (f : Int) (d : List UInt8) (hd : d.length ≤ 300) (w : World)
set_option maxRecDepth 100000 in
set_option maxHeartbeats 2000000 in
include hd in
theorem ref_as_any (g : Int) : Calls Try.prog 31 #[.agg #[.int .i64 f, .string ⟨d.toArray⟩], .int .i64 g] w fun e w' => e = .returned (asCV f d g) ∧ Below w.heap.size w w' := by
  have hS0 := TwoSt.start w (.int .i64 f) (.string ⟨d.toArray⟩)
  have HR := Lib.hid (fun W => ref_right_any f d hd W)
  have HS := Lib.hid (fun W => ref_set_any f d hd W)
  unfold contV at HS
  have c0 := hS0.1.cell 0; have c1 := hS0.1.cell 1
  dsimp at c0 c1
  by_cases hr : RightC f d
  · rw [decide_eq_true hr] at HR
    by_cases hg : 1 ≤ g ∧ g ≤ 3
    · have HV : Hid (asCV f d g = .tuple #[.agg #[.int .i64 g, .string ⟨(formS (setOf f.toNat d) g.toNat).toArray⟩], .int .i64 0]) := Lib.hid (by unfold asCV; rw [if_pos ⟨hr, hg⟩]; rfl)
      have HF := Lib.hid (fun W => form_any (setOf f.toNat d) g hg.1 hg.2 W)
      obtain ⟨hg1, hg3⟩ := hg
      generalize setOf f.toNat d = s at *
      generalize formS s g.toNat = dy at *
      generalize asCV f d g = av at *
      clear hr
      go_enter Try.func31, Try.ntmps31
      go_wp2_with fail
      refine (HR.out _).mono ?_
      rintro e w1 ⟨rfl, hb1⟩
      have hS1 := hS0.under hb1
      clear hS0 hb1 c0 c1
      have c0 := hS1.1.cell 0; have c1 := hS1.1.cell 1
      dsimp at c0 c1
      go_wp2_with fail
      refine (HS.out _).mono ?_
      rintro e w2 ⟨rfl, hb2⟩
      have hS2 := hS1.under hb2
      clear hS1 hb2 c0 c1
      go_wp2_with fail
      refine (HF.out _).mono ?_
      rintro e w3 ⟨rfl, hb3⟩
      have hS3 := hS2.under hb3
      clear hS2 hb3
      have c0 := hS3.2.1.cell 0; have c1 := hS3.2.1.cell 1
      have f0 := hS3.2.1.frozen 0; have f1 := hS3.2.1.frozen 1
      dsimp at c0 c1
      have hE := hS3.2.1.set2 (.int .i64 g) (.string ⟨dy.toArray⟩)
      have hD := hS3.done (.int .i64 g) (.string ⟨dy.toArray⟩)
      clear hS3
      go_wp2
      exact ret_cont2 rfl rfl hE rfl ⟨by rw [HV.out]; rfl, hD⟩
    · have HV : Hid (asCV f d g = .tuple #[.agg #[.int .i64 0, .string ⟨#[]⟩], .int .i64 60]) := Lib.hid (by unfold asCV; rw [if_neg (fun h => hg h.2)]; rfl)
      generalize asCV f d g = av at *
      clear HS hr
      have hg' : g < 1 ∨ (¬ g < 1 ∧ g > 3) := by omega
      clear hg
      rcases hg' with hg1 | ⟨hg1, hg3⟩
      all_goals
        go_enter Try.func31, Try.ntmps31
        go_wp2_with fail
        refine (HR.out _).mono ?_
        rintro e w1 ⟨rfl, hb1⟩
        have hS3 := hS0.under hb1
        clear hS0 hb1 c0 c1
        have c0 := hS3.2.1.cell 0; have c1 := hS3.2.1.cell 1
        have f0 := hS3.2.1.frozen 0; have f1 := hS3.2.1.frozen 1
        dsimp at c0 c1
        have hE := hS3.2.1.set2 (.int .i64 0) (.string ⟨#[]⟩)
        have hD := hS3.done (.int .i64 0) (.string ⟨#[]⟩)
        clear hS3
        go_wp2
        exact ret_cont2 rfl rfl hE rfl ⟨by rw [HV.out]; rfl, hD⟩
  · rw [decide_eq_false hr] at HR
    have HV := Lib.hid (asCV_no (g := g) hr)
    generalize asCV f d g = av at *
    clear HS hr
    go_enter Try.func31, Try.ntmps31
    go_wp2_with fail
    refine (HR.out _).mono ?_
    rintro e w1 ⟨rfl, hb1⟩
    have hS3 := hS0.under hb1
    clear hS0 hb1 c0 c1
    have c0 := hS3.2.1.cell 0; have c1 := hS3.2.1.cell 1
    have f0 := hS3.2.1.frozen 0; have f1 := hS3.2.1.frozen 1
    dsimp at c0 c1
    have hE := hS3.2.1.set2 (.int .i64 0) (.string ⟨#[]⟩)
    have hD := hS3.done (.int .i64 0) (.string ⟨#[]⟩)
    clear hS3
    go_wp2
    exact ret_cont2 rfl rfl hE rfl ⟨by rw [HV.out]; rfl, hD⟩
end
end Go.Proofs.Ytpjcndfamhehlaa
