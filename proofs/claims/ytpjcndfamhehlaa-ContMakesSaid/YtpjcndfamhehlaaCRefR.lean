/- The document's answers: is a container right, and in another form. -/
import Derived.Test.YtpjcndfamhehlaaCRefB
namespace Go.Proofs.Ytpjcndfamhehlaa
open Go.RowKit

section
variable (f : Int) (d : List UInt8) (hd : d.length ≤ 300) (w : World)
set_option maxRecDepth 100000 in
set_option maxHeartbeats 2000000 in
include hd in
theorem ref_right_any : Calls Try.prog 20 #[.agg #[.int .i64 f, .string ⟨d.toArray⟩]] w fun e w' => e = .returned (.bool (decide (RightC f d))) ∧ Below w.heap.size w w' := by
  have b0 := Blk.new w 23 #[.int .i64 f, .string ⟨d.toArray⟩]
  have hS0 := show _ ∧ _ ∧ _ ∧ _ from ⟨b0.cell 0, b0.cell 1, b0.lt, (Below.refl _ w).alloc (Nat.le_refl _) (.cells #[.int .i64 f, .string ⟨d.toArray⟩] 23)⟩
  dsimp at hS0
  clear b0
  by_cases h1 : f < 1
  · have hr : ¬ RightC f d := fun h => by have := h.1; omega
    rw [decide_eq_false hr]
    clear hr
    have e1 : decide (f ≥ 1) = false := by simp; omega
    go_enter Try.func20, Try.ntmps20
    go_wp2
    go_region
    all_goals
      go_wp2
      go_ret
      exact ⟨rfl, hS0.2.2.2.drew⟩
  by_cases h3 : f > 3
  · have hr : ¬ RightC f d := fun h => by have := h.2.1; omega
    rw [decide_eq_false hr]
    clear hr
    have e1 : decide (f ≥ 1) = true := by simp; omega
    have e3 : decide (f ≤ 3) = false := by simp; omega
    go_enter Try.func20, Try.ntmps20
    go_wp2
    go_region
    all_goals
      go_wp2
      go_ret
      exact ⟨rfl, hS0.2.2.2.drew⟩
  by_cases hl : d.length > 256
  · have hr : ¬ RightC f d := fun h => by have := h.2.2.1; omega
    rw [decide_eq_false hr]
    clear hr
    have e1 : decide (f ≥ 1) = true := by simp; omega
    have e3 : decide (f ≤ 3) = true := by simp; omega
    have el : decide ((d.length : Int) ≤ 256) = false := by simp; omega
    go_enter Try.func20, Try.ntmps20
    go_wp2
    go_region
    all_goals
      go_wp2
      go_ret
      exact ⟨rfl, hS0.2.2.2.drew⟩
  have e1 : decide (f ≥ 1) = true := by simp; omega
  have e3 : decide (f ≤ 3) = true := by simp; omega
  have el : decide ((d.length : Int) ≤ 256) = true := by simp; omega
  have HSet := Lib.hid (fun W => ref_set_any f d hd W)
  have HForm := Lib.hid (fun W => form_any (setOf f.toNat d) f (by omega) (by omega) W)
  have HD : Hid (RightC f d ↔ d = formS (setOf f.toNat d) f.toNat) := Lib.hid ⟨fun h => h.2.2.2, fun h => ⟨by omega, by omega, by omega, h⟩⟩
  unfold contV at HSet
  generalize setOf f.toNat d = s at *
  generalize formS s f.toNat = dy at *
  by_cases he : d = dy
  · subst he
    rw [decide_eq_true (HD.out.2 rfl)]
    go_enter Try.func20, Try.ntmps20
    go_wp2
    generalize hW : w.alloc (.cells #[.int .i64 f, .string ⟨d.toArray⟩] 23) = W0 at *
    go_region_held3 (fun W => W.cell? ⟨w.heap.size, 0, none⟩ = some (.int .i64 f) ∧ W.cell? ⟨w.heap.size, 1, none⟩ = some (.string ⟨d.toArray⟩) ∧ w.heap.size < W.heap.size ∧ Below w.heap.size w W)
      (first | exact hold1 (w := w) (by assumption) (by assumption) | exact hold1 (w := w) hS0 ((Below.refl _ _).drew) | exact hS0)
      (first | (go_at_call 35; refine (HSet.out _).mono ?_; rintro e w5 ⟨rfl, hb5⟩) | (go_at_call 38; refine (HForm.out _).mono ?_; rintro e w5 ⟨rfl, hb5⟩))
    all_goals
      go_wp2
      go_ret
      exact ⟨rfl, hold1_end (by assumption)⟩
  · rw [decide_eq_false (fun h => he (HD.out.1 h))]
    have hne : ¬ (⟨d.toArray⟩ : ByteArray) = ⟨dy.toArray⟩ := fun h => he (by simpa using congrArg (fun b : ByteArray => b.data.toList) h)
    go_enter Try.func20, Try.ntmps20
    go_wp2
    generalize hW : w.alloc (.cells #[.int .i64 f, .string ⟨d.toArray⟩] 23) = W0 at *
    go_region_held3 (fun W => W.cell? ⟨w.heap.size, 0, none⟩ = some (.int .i64 f) ∧ W.cell? ⟨w.heap.size, 1, none⟩ = some (.string ⟨d.toArray⟩) ∧ w.heap.size < W.heap.size ∧ Below w.heap.size w W)
      (first | exact hold1 (w := w) (by assumption) (by assumption) | exact hold1 (w := w) hS0 ((Below.refl _ _).drew) | exact hS0)
      (first | (go_at_call 35; refine (HSet.out _).mono ?_; rintro e w5 ⟨rfl, hb5⟩) | (go_at_call 38; refine (HForm.out _).mono ?_; rintro e w5 ⟨rfl, hb5⟩))
    all_goals
      go_wp2
      go_ret
      exact ⟨rfl, hold1_end (by assumption)⟩
end
end Go.Proofs.Ytpjcndfamhehlaa
