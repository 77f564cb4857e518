/- What the laws' 'shown' asks: known bytes. -/
import Derived.Test.YtkjiinhcmhoejaaDoorFRead
namespace Go.Proofs.YtkjiinhcmhoejaaDoor
open Go.RowKit

/-- "123456789". -/
def digits9 : List UInt8 := [49, 50, 51, 52, 53, 54, 55, 56, 57]
theorem crc_digits : crc digits9 = 3421780262 := by decide +kernel
theorem frame_digits : frameB digits9 = [0, 0, 0, 9, 203, 244, 57, 38, 49, 50, 51, 52, 53, 54, 55, 56, 57] := by
  unfold frameB
  rw [crc_digits]
  decide

theorem sum9_any (w : World) (hT : Tab w) : Calls Tryd.prog 16 #[.string ⟨#[49, 50, 51, 52, 53, 54, 55, 56, 57]⟩] w fun e w' => e = .returned (.int .u32 3421780262) ∧ w = w' := by
  have h := sum_any digits9 (by decide) w hT
  rw [crc_digits] at h
  exact h
theorem make9_any (w : World) (hT : Tab w) : Calls Tryd.prog 12 #[.string ⟨#[49, 50, 51, 52, 53, 54, 55, 56, 57]⟩] w fun e w' => e = .returned (.tuple #[.string ⟨#[0, 0, 0, 9, 203, 244, 57, 38, 49, 50, 51, 52, 53, 54, 55, 56, 57]⟩, .int .i64 0]) ∧ Below w.heap.size w w' := by
  have h := make_any digits9 (by decide) w hT
  rw [frame_digits] at h
  exact h
theorem read7_any (w : World) (hT : Tab w) : Calls Tryd.prog 14 #[.string ⟨#[49, 50, 51, 52, 53, 54, 55]⟩] w fun e w' => e = .returned (.tuple #[.string ⟨#[]⟩, .string ⟨#[49, 50, 51, 52, 53, 54, 55]⟩, .int .i64 21]) ∧ Below w.heap.size w w' := by
  have h := read_any [49, 50, 51, 52, 53, 54, 55] (by decide) w hT
  refine h.mono ?_
  rintro e w' ⟨rfl, hb⟩
  have hc : rcode [49, 50, 51, 52, 53, 54, 55] = 21 := rcode_short (by decide)
  exact ⟨by rw [rbytes_bad (by rw [hc]; decide), rrest_bad (by rw [hc]; decide), hc], hb⟩

set_option maxRecDepth 100000 in
set_option maxHeartbeats 2000000 in
theorem shown_any (w : World) (hT : Tab w) : Calls Tryd.prog 10 #[] w fun e w' => e = .returned (.bool true) ∧ Below w.heap.size w w' := by
  go_enter Tryd.func10, Tryd.ntmps10
  go_wp2_with fail
  refine (make9_any w hT).mono ?_
  rintro e w1 ⟨rfl, hB1⟩
  go_wp2_with fail
  refine (read7_any _ (hT.below hB1)).mono ?_
  rintro e w2 ⟨rfl, hb2⟩
  have hB2 := hB1.trans (hb2.mono hB1.size)
  go_wp2_with fail
  refine (sum9_any _ (hT.below hB2)).mono ?_
  rintro e w' ⟨rfl, rfl⟩
  go_wp2
  go_ret
  exact ⟨rfl, hB2⟩
end Go.Proofs.YtkjiinhcmhoejaaDoor
