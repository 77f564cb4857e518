/- shown: the law's own example holds. -/
import Derived.Test.YtalhaceclfeohaaWSum
namespace Go.Proofs.Ytalhaceclfeohaa
open Go.RowKit

/-- 2 to the power 63. -/
def zBig : Int := 9223372036854775808
def zTop : Int := 9223372036854775807
theorem sum_big : sumL [9223372036854775807, 1] = zBig := by decide
theorem big_hi : wHi zBig = 0 := by decide
theorem big_lo : wLo zBig = 9223372036854775808 := by decide
theorem big_n : toN zBig = 0 := by decide
theorem big_e : toE zBig = 10 := by decide
theorem top_n : toN (zBig + -1) = 9223372036854775807 := by decide
theorem top_e : toE (zBig + -1) = 0 := by decide

theorem in64_two : In64 [9223372036854775807, 1] := fun j => by
  rcases j with _ | _ | j <;> simp

theorem sum_two (w : World) : Calls Try.prog 26 #[.slice (some ⟨w.heap.size, 0, none⟩) 2 2] (w.alloc (.cells #[.int .i64 9223372036854775807, .int .i64 1] 2))
    (RetW zBig (w.alloc (.cells #[.int .i64 9223372036854775807, .int .i64 1] 2))) := by
  have b := Blk.new w 2 #[.int .i64 9223372036854775807, .int .i64 1]
  rw [← sum_big]
  refine sum_any (some ⟨w.heap.size, 0, none⟩) 2 2 [9223372036854775807, 1] in64_two (by decide) _ (.inr ⟨w.heap.size, 0, 2, rfl, by simp, fun j hj => ?_⟩)
  rcases j with _ | _ | j
  · exact b.cell 0
  · exact b.cell 1
  · simp at hj; omega

set_option maxHeartbeats 1000000 in
theorem shown_any (w : World) : Calls Try.prog 11 #[] w fun e w' => e = .returned (.bool true) ∧ Below w.heap.size w w' := by
  go_enter Try.func11, Try.ntmps11
  go_wp2_with fail
  refine (sum_two w).mono ?_
  rintro e w1 ⟨rfl, hb⟩
  go_wp2_with fail
  refine (to_any _ _).mono ?_
  rintro e w2 ⟨rfl, hb2⟩
  have b0 := Blk.new w1 24 #[.int .i64 (wHi zBig), .int .u64 (wLo zBig)]
  have hB1 : Below w.heap.size w w1 := ((Below.refl _ _).alloc (Nat.le_refl _) _).trans (hb.mono (by simp))
  have hB2 : Below w.heap.size w w2 := (hB1.alloc hB1.size _).trans (hb2.mono (by have := hB1.size; simp; omega))
  have b1 := b0.under hb2
  have hl := b1.lt
  have c0 := b1.cell 0; have c1 := b1.cell 1
  generalize w1.heap.size = B at *
  go_wp2
  go_region_held3 (fun w' => w'.cell? ⟨B, 0, none⟩ = some (.int .i64 (wHi zBig)) ∧ w'.cell? ⟨B, 1, none⟩ = some (.int .u64 (wLo zBig)) ∧ B < w'.heap.size ∧ Below w.heap.size w w')
    (first | exact hold1 (w := w) (by assumption) (by assumption) | exact ⟨c0, c1, hl, hB2.drew⟩)
    (first | (go_at_call 24; refine (of_any _ (by decide) (by decide) _).mono ?_; rintro e w' ⟨rfl, hb⟩) | (go_at_call 14; refine (add_any _ _ _).mono ?_; rintro e w' ⟨rfl, hb⟩) | (go_at_call 12; refine (to_any _ _).mono ?_; rintro e w' ⟨rfl, hb⟩))
  all_goals
    have e1 := big_hi; have e2 := big_lo; have e3 := big_n; have e4 := big_e; have e5 := top_n; have e6 := top_e
    go_wp2
    go_ret
    exact ⟨rfl, hold1_end (by assumption)⟩
end Go.Proofs.Ytalhaceclfeohaa
