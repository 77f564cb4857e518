/- What the laws on lists call besides: few, Same. -/
import Derived.Test.YtfdehmghnmjjoaaDoorVList
import Derived.RegionTactic
namespace Go.Proofs.YtfdehmghnmjjoaaDoor
open Go.RowKit

theorem ints_cut {n₀ : Nat} {W : World} {x : Option Addr} {len cap : Nat} {zs : List Int} (h : Ints n₀ W (.slice x len cap) zs) (k : Nat) (hl : zs.length = len) : Ints n₀ W (.slice x (min len k) cap) (zs.take k) := by
  rcases h with ⟨⟨x', cap', e⟩, rfl⟩ | ⟨b, off, cap', e, hb, hc⟩
  · cases e
    exact .inl ⟨⟨x, cap, by simp⟩, by simp⟩
  · cases e
    refine .inr ⟨b, off, cap, by rw [List.length_take, Nat.min_comm], hb, fun j hj => ?_⟩
    rw [List.length_take] at hj
    rw [hc j (by omega), List.getElem?_take, if_pos (by omega)]
theorem in64_take {zs : List Int} (h : In64 zs) (k : Nat) : In64 (zs.take k) := fun j => by
  rw [List.getElem?_take]
  split
  · exact h j
  · decide
/-- What a row of the call's own holds. -/
theorem ints_own {n₀ : Nat} {W : World} {v : Value} {zs : List Int} (h : W.ownsRow n₀ 2 1 v zs.length (i64s zs)) : Ints W.heap.size W v zs ∧ ∃ x cap, v = .slice x zs.length cap := by
  rcases h.2 with ⟨rfl, h0⟩ | ⟨g, cap, cur, rfl, _⟩
  · have : zs = [] := List.eq_nil_of_length_eq_zero h0
    subst this
    exact ⟨.inl ⟨⟨none, 0, rfl⟩, rfl⟩, none, 0, rfl⟩
  · refine ⟨.inr ⟨g, 0, cap, rfl, (h.lt g rfl).2, fun j hj => ?_⟩, _, cap, rfl⟩
    have := h.cells (g := g) rfl j (.int .i64 (zs[j]?.getD 0)) (by simp [i64s, List.getElem?_map, List.getElem?_eq_getElem hj])
    rw [Nat.zero_add]
    rwa [show (⟨g, 0, none⟩ : Addr).add j = ⟨g, j, none⟩ by unfold Addr.add; split <;> simp_all] at this

set_option maxRecDepth 100000 in
theorem few_any (x : Option Addr) (len cap : Nat) (hlc : len ≤ cap) (hcm : cap ≤ 9223372036854775807) (w : World) : Calls Tryd.prog 20 #[.slice x len cap] w fun e w' => e = .returned (.slice x (min len 1010) cap) ∧ w = w' := by
  by_cases h : (len : Int) ≤ 1010
  · have hm : min len 1010 = len := by omega
    have HM := Lib.hid hm
    clear hm
    go_enter Tryd.func20, Tryd.ntmps20
    go_wp2
    go_ret
    exact ⟨by rw [HM.out]; rfl, rfl⟩
  · have hm : min len 1010 = 1010 := by omega
    have HM := Lib.hid hm
    clear hm
    go_enter Tryd.func20, Tryd.ntmps20
    go_wp2
    go_ret
    exact ⟨by rw [HM.out]; rfl, rfl⟩

set_option maxRecDepth 100000 in
set_option maxHeartbeats 2000000 in
theorem same_any (x1 x2 : Option Addr) (len c1 c2 : Nat) (zs : List Int) (hlen : len ≤ 9223372036854775807) (w : World) (h1 : Ints w.heap.size w (.slice x1 len c1) zs) (h2 : Ints w.heap.size w (.slice x2 len c2) zs) :
    Calls Tryd.prog 21 #[.slice x1 len c1, .slice x2 len c2] w fun e w' => e = .returned (.bool true) ∧ Below w.heap.size w w' := by
  go_enter Tryd.func21, Tryd.ntmps21
  go_wp2
  go_loopw [5] (fun i wr => ∃ k : Nat, k ≤ len ∧ i = .int .i64 k ∧ Below w.heap.size w wr) (fun i _ => len - (intOf i).toNat)
  case atStart => exact ⟨0, Nat.zero_le _, rfl, Below.refl _ _⟩
  case round =>
    obtain ⟨k, hk, rfl, hB⟩ := hrel
    by_cases hlt : k < len
    · obtain ⟨b1, o1, rfl, hb1, hc1⟩ := h1.at_ hlt
      obtain ⟨b2, o2, rfl, hb2, hc2⟩ := h2.at_ hlt
      have hd1 : wr.cell? ⟨b1, o1 + k, none⟩ = some (.int .i64 (zs[k]?.getD 0)) := (hB.cell (p := ⟨b1, o1 + k, none⟩) hb1).trans hc1
      have hd2 : wr.cell? ⟨b2, o2 + k, none⟩ = some (.int .i64 (zs[k]?.getD 0)) := (hB.cell (p := ⟨b2, o2 + k, none⟩) hb2).trans hc2
      generalize zs[k]?.getD 0 = z at *
      have hlt' : (k : Int) < len := by omega
      clear hc1 hc2
      go_wp2
      go_region
      all_goals
        go_wp2
        go_roundw
        case rel => exact ⟨k + 1, by omega, by simp, hB.drew⟩
        case measure => simp [intOf]; omega
    · obtain rfl : k = len := by omega
      have hge : ¬ (k : Int) < k := by omega
      go_wp2
      go_ret
      exact ⟨rfl, hB⟩
end Go.Proofs.YtfdehmghnmjjoaaDoor
