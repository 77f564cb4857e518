/- What the laws' 'shown' asks: known bytes. -/
import Derived.Test.YtfdehmghnmjjoaaDoorVPack
import Derived.Test.YtfdehmghnmjjoaaDoorVGet
namespace Go.Proofs.YtfdehmghnmjjoaaDoor
open Go.RowKit

theorem bytes_300 : vput 300 = [172, 2] := by rw [vput_hi (by decide), vput_lo (by decide)]; rfl
theorem bytes_53 : packB [5, 3] = [2, 10, 3] := by
  have e1 : deltas 0 [5, 3] = [10, 3] := by simp [deltas, turnOf, wrap64]
  unfold packB
  rw [e1]
  simp only [vputs, List.flatMap_cons, List.flatMap_nil, List.length_cons, List.length_nil]
  rw [vput_lo (by decide), vput_lo (by decide), vput_lo (by decide)]
  rfl
theorem code_80 : vcode [128] = 21 := by decide
theorem code_8000 : vcode [128, 0] = 20 := by
  have h := (vcode_at (s := [128, 0]) (k := 1) (by decide) (by decide) (fun j hj => by obtain rfl : j = 0 := (by omega); decide) (by decide)).2
  rw [h, if_neg]
  rw [fits_iff]
  rintro ⟨h1, _⟩
  exact h1.2.2 rfl

theorem pack53_any (w : World) (b : Nat) (cap : Nat) (hb : b < w.heap.size) (h0 : w.cell? ⟨b, 0, none⟩ = some (.int .i64 5)) (h1 : w.cell? ⟨b, 1, none⟩ = some (.int .i64 3)) :
    Calls Tryd.prog 18 #[.slice (some ⟨b, 0, none⟩) 2 cap] w fun e w' => e = .returned (.tuple #[.string ⟨#[2, 10, 3]⟩, .int .i64 0]) ∧ Below w.heap.size w w' := by
  refine (pack_any _ 2 cap [5, 3] rfl (by decide) (fun j => by match j with | 0 => decide | 1 => decide | j + 2 => simp) w (.inr ⟨b, 0, cap, rfl, hb, fun j hj => ?_⟩)).mono ?_
  · match j, hj with
    | 0, _ => simpa using h0
    | 1, _ => simpa using h1
  · rintro e w' ⟨rfl, hb⟩
    refine ⟨?_, hb⟩
    rw [bytes_53]
    rfl
theorem get8000_any {n₀ : Nat} (a b : Addr) (w : World) (hS : Sent n₀ w a b) (hn₀ : n₀ ≤ w.heap.size) :
    Calls Tryd.prog 9 #[.string ⟨#[128, 0]⟩] w fun e w' => e = .returned (.tuple #[.int .u64 0, .string ⟨#[128, 0]⟩, .int .i64 20]) ∧ Below w.heap.size w w' := by
  refine (get_any a b [128, 0] (by decide) w hS hn₀).mono ?_
  rintro e w' ⟨rfl, hb⟩
  refine ⟨?_, hb⟩
  rw [code_8000, vnum_err (by rw [code_8000]; decide), vsize_err (by rw [code_8000]; decide)]
  rfl
theorem get80_any {n₀ : Nat} (a b : Addr) (w : World) (hS : Sent n₀ w a b) (hn₀ : n₀ ≤ w.heap.size) :
    Calls Tryd.prog 9 #[.string ⟨#[128]⟩] w fun e w' => e = .returned (.tuple #[.int .u64 0, .string ⟨#[128]⟩, .int .i64 21]) ∧ Below w.heap.size w w' := by
  refine (get_any a b [128] (by decide) w hS hn₀).mono ?_
  rintro e w' ⟨rfl, hb⟩
  refine ⟨?_, hb⟩
  rw [code_80, vnum_err (by rw [code_80]; decide), vsize_err (by rw [code_80]; decide)]
  rfl
theorem put300_any (w : World) : Calls Tryd.prog 12 #[.int .u64 300] w fun e w' => e = .returned (.string ⟨#[172, 2]⟩) ∧ Below w.heap.size w w' := by
  refine (put1_any 300 (by decide) w).mono ?_
  rintro e w' ⟨rfl, hb⟩
  exact ⟨by rw [bytes_300], hb⟩

set_option maxRecDepth 100000 in
set_option maxHeartbeats 2000000 in
theorem shown_any {n₀ : Nat} (a b : Addr) (w : World) (hS : Sent n₀ w a b) (hn₀ : n₀ ≤ w.heap.size) : Calls Tryd.prog 8 #[] w fun e w' => e = .returned (.bool true) ∧ Below w.heap.size w w' := by
  have hb0 := Blk.new w 2 #[.int .i64 5, .int .i64 3]
  have hB0 : Below w.heap.size w (w.alloc (.cells #[.int .i64 5, .int .i64 3] 2)) := (Below.refl _ w).alloc (Nat.le_refl _) _
  have HPk := Lib.hid (pack53_any (w.alloc (.cells #[.int .i64 5, .int .i64 3] 2)) w.heap.size 2 (by simp) (hb0.cell 0) (hb0.cell 1))
  clear hb0
  go_enter Tryd.func8, Tryd.ntmps8
  go_wp2_with fail
  refine HPk.out.mono ?_
  rintro e w1 ⟨rfl, hb1⟩
  have hB1 := hB0.trans (hb1.mono hB0.size)
  clear hb1 hB0 HPk
  go_wp2_with fail
  refine (get8000_any a b _ (hS.below (hB1.mono hn₀)) (Nat.le_trans hn₀ hB1.size)).mono ?_
  rintro e w2 ⟨rfl, hb2⟩
  have hB2 := hB1.trans (hb2.mono hB1.size)
  clear hb2 hB1
  go_wp2_with fail
  refine (get80_any a b _ (hS.below (hB2.mono hn₀)) (Nat.le_trans hn₀ hB2.size)).mono ?_
  rintro e w3 ⟨rfl, hb3⟩
  have hB3 := hB2.trans (hb3.mono hB2.size)
  clear hb3 hB2
  go_wp2_with fail
  refine (put300_any _).mono ?_
  rintro e w4 ⟨rfl, hb4⟩
  have hB4 := hB3.trans (hb4.mono hB3.size)
  go_wp2
  go_ret
  exact ⟨rfl, hB4⟩
end Go.Proofs.YtfdehmghnmjjoaaDoor
