/- Slices of numbers. -/
import Derived.Test.YtpjcndfamhehlaaVLeaf
namespace Go.Proofs.Ytpjcndfamhehlaa
open Go.RowKit

/-- The slice value sv holds the numbers zs, in a block below n₀; or there are none. -/
def Ints (n₀ : Nat) (W : World) (sv : Value) (zs : List Int) : Prop :=
  ((∃ x cap, sv = .slice x 0 cap) ∧ zs = []) ∨ ∃ b off cap, sv = .slice (some ⟨b, off, none⟩) zs.length cap ∧ b < n₀ ∧ ∀ j, j < zs.length → W.cell? ⟨b, off + j, none⟩ = some (.int .i64 (zs[j]?.getD 0))
theorem Ints.below {n₀ : Nat} {A B : World} (h : Below n₀ A B) {sv : Value} {zs : List Int} : Ints n₀ A sv zs → Ints n₀ B sv zs
  | .inl e => .inl e
  | .inr ⟨b, off, cap, e, hb, hc⟩ => .inr ⟨b, off, cap, e, hb, fun j hj => (h.cell (p := ⟨b, off + j, none⟩) hb).trans (hc j hj)⟩
theorem Ints.more {n₀ n₁ : Nat} {A : World} (h : n₀ ≤ n₁) {sv : Value} {zs : List Int} : Ints n₀ A sv zs → Ints n₁ A sv zs
  | .inl e => .inl e
  | .inr ⟨b, off, cap, e, hb, hc⟩ => .inr ⟨b, off, cap, e, Nat.lt_of_lt_of_le hb h, hc⟩
/-- Each is a number of 64 bits. -/
def In64 (zs : List Int) : Prop := ∀ j : Nat, -9223372036854775808 ≤ zs[j]?.getD 0 ∧ zs[j]?.getD 0 ≤ 9223372036854775807
/-- The cell of number j, where there is one. -/
theorem Ints.at_ {n₀ : Nat} {W : World} {x : Option Addr} {len cap : Nat} {zs : List Int} (h : Ints n₀ W (.slice x len cap) zs) {j : Nat} (hj : j < len) : ∃ b off, x = some ⟨b, off, none⟩ ∧ b < n₀ ∧ W.cell? ⟨b, off + j, none⟩ = some (.int .i64 (zs[j]?.getD 0)) := by
  rcases h with ⟨⟨x', cap', e⟩, _⟩ | ⟨b, off, cap', e, hb, hc⟩
  · cases e; omega
  · cases e
    exact ⟨b, off, rfl, hb, hc j hj⟩

end Go.Proofs.Ytpjcndfamhehlaa
