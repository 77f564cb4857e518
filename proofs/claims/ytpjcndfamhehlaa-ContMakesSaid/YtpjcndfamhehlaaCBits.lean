/- math/bits: TrailingZeros8, OnesCount8. -/
import Derived.Test.YtpjcndfamhehlaaCSet
import Derived.Lib.BitFns
namespace Go.Proofs.Ytpjcndfamhehlaa
open Go.RowKit

theorem ntz_tz : ∀ n : Fin 256, Lib.ntz8 (n.val : Int) = (tz n.val : Int) := by decide +kernel
theorem pop_ones : ∀ n : Fin 256, Lib.pop8 (n.val : Int) = (ones n.val : Int) := by decide +kernel
theorem tz_le : ∀ n : Fin 256, tz n.val ≤ 8 := by decide +kernel
theorem ones_le : ∀ n : Fin 256, ones n.val ≤ 8 := by decide +kernel
set_option maxRecDepth 100000 in
theorem tz_any (d : Nat) (hd : d < 256) (w : World) : Calls Try.prog 46 #[.int .u8 d] w fun e w' => e = .returned (.int .i64 (tz d : Nat)) ∧ w = w' := by
  have h1 := ntz_tz ⟨d, hd⟩
  have h2 := tz_le ⟨d, hd⟩
  simp only at h1 h2
  have hd' : (d : Int) ≤ 255 := by omega
  go_enter Try.func46, Try.ntmps46
  go_wp2
  go_ret
  exact ⟨rfl, rfl⟩
set_option maxRecDepth 100000 in
theorem ones_any (d : Nat) (hd : d < 256) (w : World) : Calls Try.prog 47 #[.int .u8 d] w fun e w' => e = .returned (.int .i64 (ones d : Nat)) ∧ w = w' := by
  have h1 := pop_ones ⟨d, hd⟩
  have h2 := ones_le ⟨d, hd⟩
  simp only at h1 h2
  have hd' : (d : Int) ≤ 255 := by omega
  go_enter Try.func47, Try.ntmps47
  go_wp2
  go_ret
  exact ⟨rfl, rfl⟩
end Go.Proofs.Ytpjcndfamhehlaa
