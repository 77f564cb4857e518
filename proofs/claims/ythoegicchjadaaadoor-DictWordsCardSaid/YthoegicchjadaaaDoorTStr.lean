/- Texts in a slice: what comes in, what a call owns; the document's Texts. -/
import Derived.Test.YthoegicchjadaaaDoorVLeaf
import Derived.Deep.AppendLies
import Derived.Deep.RegionHeld3
import Derived.Maps.AppendAt
import Derived.Laws.OwnMore
import Derived.LoopTactic
import Derived.RegionTactic
namespace Go.Proofs.YthoegicchjadaaaDoor
open Go.RowKit

/-- Texts in a slice, below n₀. -/
def Strs (n₀ : Nat) (W : World) (v : Value) (ls : List (List UInt8)) : Prop := ((∃ x cap, v = .slice x 0 cap) ∧ ls = []) ∨
  ∃ b off cap, v = .slice (some ⟨b, off, none⟩) ls.length cap ∧ b < n₀ ∧ ∀ j, j < ls.length → W.cell? ⟨b, off + j, none⟩ = some (.string ⟨(ls[j]?.getD []).toArray⟩)
theorem Strs.below {n₀ : Nat} {W W' : World} {v : Value} {ls : List (List UInt8)} (h : Strs n₀ W v ls) (hb : Below n₀ W W') : Strs n₀ W' v ls := by
  rcases h with h | ⟨b, off, cap, e, hl, hc⟩
  · exact .inl h
  · exact .inr ⟨b, off, cap, e, hl, fun j hj => (hb.cell (p := ⟨b, off + j, none⟩) hl).trans (hc j hj)⟩
theorem Strs.mono {n₀ n₁ : Nat} {W : World} {v : Value} {ls : List (List UInt8)} (h : Strs n₀ W v ls) (hn : n₀ ≤ n₁) : Strs n₁ W v ls := by
  rcases h with h | ⟨b, off, cap, e, hl, hc⟩
  · exact .inl h
  · exact .inr ⟨b, off, cap, e, Nat.lt_of_lt_of_le hl hn, hc⟩
/-- The cell of text j, where there is one. -/
theorem Strs.at_ {n₀ : Nat} {W : World} {x : Option Addr} {len cap : Nat} {ls : List (List UInt8)} (h : Strs n₀ W (.slice x len cap) ls) {j : Nat} (hj : j < len) : ∃ b off, x = some ⟨b, off, none⟩ ∧ b < n₀ ∧ W.cell? ⟨b, off + j, none⟩ = some (.string ⟨(ls[j]?.getD []).toArray⟩) := by
  rcases h with ⟨⟨x', cap', e⟩, _⟩ | ⟨b, off, cap', e, hb, hc⟩
  · cases e; omega
  · cases e
    exact ⟨b, off, rfl, hb, hc j hj⟩
theorem Strs.len {n₀ : Nat} {W : World} {x : Option Addr} {len cap : Nat} {ls : List (List UInt8)} (h : Strs n₀ W (.slice x len cap) ls) : len = ls.length := by
  rcases h with ⟨⟨x', cap', e⟩, rfl⟩ | ⟨b, off, cap', e, hb, hc⟩
  · cases e; rfl
  · cases e; rfl
/-- No texts. -/
theorem Strs.none {n₀ : Nat} {W : World} {x : Option Addr} {cap : Nat} : Strs n₀ W (.slice x 0 cap) [] := .inl ⟨⟨x, cap, rfl⟩, rfl⟩
/-- The texts from place p on. -/
theorem Strs.from_ {n₀ : Nat} {W : World} {b off len cap : Nat} {ls : List (List UInt8)} (h : Strs n₀ W (.slice (some ⟨b, off, .none⟩) len cap) ls) (p : Nat) (hp : p ≤ len) : Strs n₀ W (.slice (some ⟨b, off + p, .none⟩) (len - p) (cap - p)) (ls.drop p) := by
  have hl := h.len
  rcases Nat.lt_or_ge p len with hlt | hge
  · obtain ⟨b', off', e, hb, _⟩ := h.at_ (j := 0) (by omega)
    cases e
    refine .inr ⟨b, off + p, cap - p, by rw [List.length_drop, hl], hb, fun j hj => ?_⟩
    rw [List.length_drop] at hj
    obtain ⟨b', off', e, _, hc⟩ := h.at_ (j := p + j) (by omega)
    cases e
    rw [List.getElem?_drop, Nat.add_assoc]
    exact hc
  · have e1 : len - p = 0 := by omega
    have e2 : ls.drop p = [] := List.drop_eq_nil_of_le (by omega)
    rw [e1, e2]
    exact Strs.none

theorem info_str : (Tryd.prog.info? 9).map (fun i => (i.zero, i.size, i.bytes)) = some (some (.string ⟨#[]⟩), 1, 16) := by kernel_rfl
def strVs (ls : List (List UInt8)) : List Value := ls.map fun l => Value.string ⟨l.toArray⟩
theorem strVs_snoc (ls : List (List UInt8)) (l : List UInt8) : strVs (ls ++ [l]) = strVs ls ++ [Value.string ⟨l.toArray⟩] := by simp [strVs]
theorem strVs_append (ls ks : List (List UInt8)) : strVs (ls ++ ks) = strVs ls ++ strVs ks := by simp [strVs]
theorem strVs_length (ls : List (List UInt8)) : (strVs ls).length = ls.length := by simp [strVs]
/-- Texts in a row that the call owns. -/
abbrev OwnS (n₀ : Nat) (W : World) (v : Value) (ls : List (List UInt8)) : Prop := W.ownsRow n₀ 9 1 v ls.length (strVs ls)
theorem strs_own {n₀ : Nat} {W : World} {v : Value} {ls : List (List UInt8)} (h : OwnS n₀ W v ls) : Strs W.heap.size W v ls ∧ ∃ x cap, v = .slice x ls.length cap := by
  rcases h.2 with ⟨rfl, h0⟩ | ⟨g, cap, cur, rfl, _⟩
  · have : ls = [] := List.eq_nil_of_length_eq_zero h0
    subst this
    exact ⟨.inl ⟨⟨none, 0, rfl⟩, rfl⟩, none, 0, rfl⟩
  · refine ⟨.inr ⟨g, 0, cap, rfl, (h.lt g rfl).2, fun j hj => ?_⟩, _, cap, rfl⟩
    have := h.cells (g := g) rfl j (.string ⟨(ls[j]?.getD []).toArray⟩) (by simp [strVs, List.getElem?_map, List.getElem?_eq_getElem hj])
    rw [Nat.zero_add]
    rwa [show (⟨g, 0, .none⟩ : Addr).add j = ⟨g, j, .none⟩ by unfold Addr.add; split <;> simp_all] at this
theorem grownBy_of_below {a w : World} (h : Below a.heap.size a w) (row : Option Nat) : a.grownBy w row := ⟨h.os, h.tape, h.output, h.size, fun i hi _ => h.block i hi⟩
theorem own_below {n₀ : Nat} {W W' : World} {v : Value} {ls : List (List UInt8)} (h : OwnS n₀ W v ls) (hb : Below W.heap.size W W') : OwnS n₀ W' v ls :=
  h.kept (grownBy_of_below hb .none) (by
    cases e : v.ownBlock with
    | none => exact .inl rfl
    | some g => exact .inr (by simp))

set_option maxRecDepth 100000 in
set_option maxHeartbeats 2000000 in
theorem texts_same (x1 x2 : Option Addr) (len c1 c2 : Nat) (ls : List (List UInt8)) (hlen : len ≤ 9223372036854775807) (w : World) (h1 : Strs w.heap.size w (.slice x1 len c1) ls) (h2 : Strs w.heap.size w (.slice x2 len c2) ls) :
    Calls Tryd.prog 16 #[.slice x1 len c1, .slice x2 len c2] w fun e w' => e = .returned (.bool true) ∧ Below w.heap.size w w' := by
  go_enter Tryd.func16, Tryd.ntmps16
  go_wp2
  go_loopw [5] (fun i wr => ∃ k : Nat, k ≤ len ∧ i = .int .i64 k ∧ Below w.heap.size w wr) (fun i _ => len - (intOf i).toNat)
  case atStart => exact ⟨0, Nat.zero_le _, rfl, Below.refl _ _⟩
  case round =>
    obtain ⟨k, hk, rfl, hB⟩ := hrel
    by_cases hlt : k < len
    · obtain ⟨b1, o1, rfl, hb1, hc1⟩ := h1.at_ hlt
      obtain ⟨b2, o2, rfl, hb2, hc2⟩ := h2.at_ hlt
      have hd1 := (hB.cell (p := ⟨b1, o1 + k, .none⟩) hb1).trans hc1
      have hd2 := (hB.cell (p := ⟨b2, o2 + k, .none⟩) hb2).trans hc2
      generalize ls[k]?.getD [] = z at *
      have hlt' : (k : Int) < len := by omega
      clear hc1 hc2
      go_wp2
      go_region
      all_goals
        go_wp2
        go_roundw
        case rel => exact ⟨k + 1, by omega, by simp, hB.drew⟩
        case measure => simp [intOf]; omega
    · obtain rfl : k = len := by omega
      have hge : ¬ (k : Int) < k := by omega
      go_wp2
      go_ret
      exact ⟨rfl, hB⟩
end Go.Proofs.YthoegicchjadaaaDoor
