/- The document's own answers with loops and regions: Mul, To, Compare. -/
import Derived.Test.YtalhaceclfeohaaWRef
namespace Go.Proofs.Ytalhaceclfeohaa
open Go.RowKit

set_option maxHeartbeats 1000000 in
theorem ref_to_any (z : Int) (w : World) : Calls Try.prog 13 #[(.agg #[.int .i64 (wHi (z)), .int .u64 (wLo (z))])] w fun e w' => e = .returned (.tuple #[.int .i64 (toN z), .int .i64 (toE z)]) ∧ Below w.heap.size w w' := by
  have b0 := wSgn_lo z; have b1 := wSgn_up z
  have l0 := wLo_lo z; have l1 := wLo_up z
  have hS : wrap64 (wLo z) = wSgn z := by unfold wrap64 wSgn; rfl
  have c0 := Blk.new w 24 #[.int .i64 (wHi z), .int .u64 (wLo z)]
  have hB1 : Below w.heap.size w (w.alloc (.cells #[.int .i64 (wHi z), .int .u64 (wLo z)] 24)) := (Below.refl _ _).alloc (Nat.le_refl _) _
  by_cases h : wHi (wSgn z) = wHi z
  · obtain ⟨h2, h3, h4⟩ := to_in h
    have H3 := Lib.hid h3; have H4 := Lib.hid h4
    clear h3 h4
    go_enter Try.func13, Try.ntmps13
    go_wp2
    go_region_held3 (fun w' => w'.cell? ⟨w.heap.size, 0, none⟩ = some (.int .i64 (wHi z)) ∧ w'.cell? ⟨w.heap.size, 1, none⟩ = some (.int .u64 (wLo z)) ∧ w.heap.size < w'.heap.size ∧ Below w.heap.size w w')
      (first | exact hold1 (w := w) (by assumption) (by assumption) | exact ⟨c0.cell 0, c0.cell 1, c0.lt, hB1.drew⟩)
      (first | (go_at_call 25; refine (ref_of_any _ b0 b1 _).mono ?_; rintro e w' ⟨rfl, hb⟩))
    all_goals
      go_wp2
      go_ret2
      exact ⟨by rw [H3.out, H4.out]; rfl, hold1_end (by assumption)⟩
  · obtain ⟨h3, h4⟩ := to_out h
    have H3 := Lib.hid h3; have H4 := Lib.hid h4
    clear h3 h4
    go_enter Try.func13, Try.ntmps13
    go_wp2
    go_region_held3 (fun w' => w'.cell? ⟨w.heap.size, 0, none⟩ = some (.int .i64 (wHi z)) ∧ w'.cell? ⟨w.heap.size, 1, none⟩ = some (.int .u64 (wLo z)) ∧ w.heap.size < w'.heap.size ∧ Below w.heap.size w w')
      (first | exact hold1 (w := w) (by assumption) (by assumption) | exact ⟨c0.cell 0, c0.cell 1, c0.lt, hB1.drew⟩)
      (first | (go_at_call 25; refine (ref_of_any _ b0 b1 _).mono ?_; rintro e w' ⟨rfl, hb⟩))
    all_goals
      go_wp2
      go_ret2
      exact ⟨by rw [H3.out, H4.out]; rfl, hold1_end (by assumption)⟩
end Go.Proofs.Ytalhaceclfeohaa
