/- The document's Ints: two lists that are the same. -/
import Derived.Test.YtpjcndfamhehlaaVInts
import Derived.LoopTactic
import Derived.RegionTactic
namespace Go.Proofs.Ytpjcndfamhehlaa
open Go.RowKit

set_option maxRecDepth 100000 in
set_option maxHeartbeats 2000000 in
theorem same_any (x1 x2 : Option Addr) (len c1 c2 : Nat) (zs : List Int) (hlen : len ≤ 9223372036854775807) (w : World) (h1 : Ints w.heap.size w (.slice x1 len c1) zs) (h2 : Ints w.heap.size w (.slice x2 len c2) zs) :
    Calls Try.prog 21 #[.slice x1 len c1, .slice x2 len c2] w fun e w' => e = .returned (.bool true) ∧ Below w.heap.size w w' := by
  go_enter Try.func21, Try.ntmps21
  go_wp2
  go_loopw [5] (fun i wr => ∃ k : Nat, k ≤ len ∧ i = .int .i64 k ∧ Below w.heap.size w wr) (fun i _ => len - (intOf i).toNat)
  case atStart => exact ⟨0, Nat.zero_le _, rfl, Below.refl _ _⟩
  case round =>
    obtain ⟨k, hk, rfl, hB⟩ := hrel
    by_cases hlt : k < len
    · obtain ⟨b1, o1, rfl, hb1, hc1⟩ := h1.at_ hlt
      obtain ⟨b2, o2, rfl, hb2, hc2⟩ := h2.at_ hlt
      have hd1 : wr.cell? ⟨b1, o1 + k, none⟩ = some (.int .i64 (zs[k]?.getD 0)) := (hB.cell (p := ⟨b1, o1 + k, none⟩) hb1).trans hc1
      have hd2 : wr.cell? ⟨b2, o2 + k, none⟩ = some (.int .i64 (zs[k]?.getD 0)) := (hB.cell (p := ⟨b2, o2 + k, none⟩) hb2).trans hc2
      generalize zs[k]?.getD 0 = z at *
      have hlt' : (k : Int) < len := by omega
      clear hc1 hc2
      go_wp2
      go_region
      all_goals
        go_wp2
        go_roundw
        case rel => exact ⟨k + 1, by omega, by simp, hB.drew⟩
        case measure => simp [intOf]; omega
    · obtain rfl : k = len := by omega
      have hge : ¬ (k : Int) < k := by omega
      go_wp2
      go_ret
      exact ⟨rfl, hB⟩
end Go.Proofs.Ytpjcndfamhehlaa
