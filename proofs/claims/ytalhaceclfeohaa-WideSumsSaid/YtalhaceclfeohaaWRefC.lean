/- The document's own answer to which wide number is greater. -/
import Derived.Test.YtalhaceclfeohaaWRef
import Derived.Test.YtalhaceclfeohaaWComp2
namespace Go.Proofs.Ytalhaceclfeohaa
open Go.RowKit

/-- The sign, by halves. -/
def cmpR (a b c d : Int) : Int := if a < c then -1 else if c < a then 1 else if b < d then -1 else if d < b then 1 else 0

set_option maxHeartbeats 1000000 in
theorem ref_compare_raw (a b c d : Int) (w : World) : Calls Try.prog 19 #[.agg #[.int .i64 a, .int .u64 b], .agg #[.int .i64 c, .int .u64 d]] w fun e w' => e = .returned (.int .i64 (cmpR a b c d)) ∧ Below w.heap.size w w' := by
  have hB : Below w.heap.size w ((w.alloc (.cells #[.int .i64 a, .int .u64 b] 24)).alloc (.cells #[.int .i64 c, .int .u64 d] 24)) := ((Below.refl _ _).alloc (Nat.le_refl _) _).alloc (by simp) _
  by_cases h1 : a < c
  · have H : Hid (cmpR a b c d = -1) := Lib.hid (if_pos h1)
    have hne : (a == c) = false := by simp; omega
    go_enter Try.func19, Try.ntmps19
    go_wp2
    go_ret
    exact ⟨by rw [H.out]; rfl, hB⟩
  · by_cases h2 : c < a
    · have H : Hid (cmpR a b c d = 1) := Lib.hid (by unfold cmpR; rw [if_neg h1, if_pos h2])
      have hne : (a == c) = false := by simp; omega
      go_enter Try.func19, Try.ntmps19
      go_wp2
      go_ret
      exact ⟨by rw [H.out]; rfl, hB⟩
    · obtain rfl : a = c := by omega
      clear h1 h2
      by_cases h3 : b < d
      · have H : Hid (cmpR a b a d = -1) := Lib.hid (by unfold cmpR; rw [if_neg (by omega), if_neg (by omega), if_pos h3])
        have hne : (b == d) = false := by simp; omega
        go_enter Try.func19, Try.ntmps19
        go_wp2
        go_ret
        exact ⟨by rw [H.out]; rfl, hB⟩
      · by_cases h4 : d < b
        · have H : Hid (cmpR a b a d = 1) := Lib.hid (by unfold cmpR; rw [if_neg (by omega), if_neg (by omega), if_neg h3, if_pos h4])
          have hne : (b == d) = false := by simp; omega
          go_enter Try.func19, Try.ntmps19
          go_wp2
          go_ret
          exact ⟨by rw [H.out]; rfl, hB⟩
        · obtain rfl : b = d := by omega
          clear h3 h4
          have H : Hid (cmpR a b a b = 0) := Lib.hid (by unfold cmpR; rw [if_neg (by omega), if_neg (by omega), if_neg (by omega), if_neg (by omega)])
          go_enter Try.func19, Try.ntmps19
          go_wp2
          go_ret
          exact ⟨by rw [H.out]; rfl, hB⟩

theorem ref_compare_any (y z : Int) (w : World) : Calls Try.prog 19 #[(.agg #[.int .i64 (wHi (y)), .int .u64 (wLo (y))]), (.agg #[.int .i64 (wHi (z)), .int .u64 (wLo (z))])] w fun e w' => e = .returned (.int .i64 (cmpW y z)) ∧ Below w.heap.size w w' :=
  ref_compare_raw (wHi y) (wLo y) (wHi z) (wLo z) w
end Go.Proofs.Ytalhaceclfeohaa
