/- What an argument of texts in a slice reads as. -/
import Derived.Test.YtkjiinhcmhoejaaDoorFRow
import Derived.Test.YtkjiinhcmhoejaaDoorFList
namespace Go.Proofs.YtkjiinhcmhoejaaDoor
open Go.ChangeShapes Go.WideShapes Go.ChangeAt Go.RowKit Go.Joins

section
variable {H : Type} {enc : TypeId × Value → H}
/-- Texts in a slice: they lie in old memory, and read as before wherever that lies as it lay. -/
theorem open_strings {W : World} {r : Reach} {b0 : Nat} {v : Value} {d : DataW H} {p : List MemPlace} (hv : Value.okWide Tryd.prog W r b0 32 v) (h : DataW.Trod enc Tryd.prog W 0 (fun _ => true) true 32 v d p) (hlt : ∀ q ∈ p, q.block < W.heap.size) :
    ∃ (x : Option Addr) (len cap : Nat) (ls : List (List UInt8)), v = .slice x len cap ∧ len ≤ cap ∧ cap ≤ 9223372036854775807 ∧ ls.length = len ∧ (∀ j : Nat, (ls[j]?.getD []).length ≤ 9223372036854775807) ∧ Strs W.heap.size W v ls ∧
      ∀ W', Below W.heap.size W W' → ∀ sp : Nat → Bool, (∀ q ∈ p, sp q.block = true) → DataW.Trod enc Tryd.prog W' 0 sp true 32 v d p := by
  obtain ⟨x, len, cap, rfl⟩ := okWide_slice Tryd.underlying32 hv
  obtain ⟨fuel, hf⟩ := h
  rcases Deep.open_strs Tryd.underlying32 Tryd.underlying9 cellsS hf with ⟨hcs, hx⟩ | ⟨a, len', cap', m, Sx, hcs, _, hl, hm, hmm, hx, hcell⟩
  · simp [Value.cells] at hcs
    obtain ⟨rfl, rfl, rfl⟩ := hcs
    simp only [Prod.mk.injEq] at hx
    obtain ⟨rfl, rfl⟩ := hx
    exact ⟨none, 0, 0, [], rfl, Nat.le_refl _, by decide, rfl, fun j => by simp, .inl ⟨⟨none, 0, rfl⟩, rfl⟩, fun W' _ sp _ => shut_slice_nil Tryd.underlying32⟩
  · simp [Value.cells] at hcs
    obtain ⟨rfl, rfl, rfl⟩ := hcs
    simp only [if_true] at hmm
    subst hmm
    simp only [Prod.mk.injEq] at hx
    obtain ⟨rfl, rfl⟩ := hx
    have hm' : m ≤ 9223372036854775807 := by unfold maxLen at hm; omega
    have hmk : ∀ i, (⟨(Sx i).data.toList.toArray⟩ : ByteArray) = Sx i := fun i => by simp
    have hget : ∀ j, j < len → (((List.range len).map fun i => (Sx i).data.toList)[j]?.getD []) = (Sx j).data.toList := fun j hj => by simp [hj]
    have hrow : 0 < m → a.block < W.heap.size := fun h0 => hlt (.cell a.block a.off) (MemPlace.mem_row.2 ⟨0, h0, by simp⟩)
    refine ⟨some a, len, m, (List.range len).map fun i => (Sx i).data.toList, rfl, hl, hm', by simp, fun j => ?_, ?_, ?_⟩
    · by_cases hj : j < len
      · rw [hget j hj]
        have := (hcell j (by omega)).2
        unfold maxLen at this
        rw [Array.length_toList]
        exact this
      · rw [List.getElem?_eq_none (by simp; omega)]
        decide
    · by_cases hl0 : len = 0
      · subst hl0
        exact .inl ⟨⟨some a, m, rfl⟩, by simp⟩
      · obtain ⟨b, off, spot⟩ := a
        have hspot : spot = none := by simpa [Addr.add] using World.cell?_spot (hcell 0 (by omega)).1
        subst hspot
        refine .inr ⟨b, off, m, by simp, hrow (by omega), fun j hj => ?_⟩
        have hj' : j < len := by simpa using hj
        have h1 := (hcell j (by omega)).1
        rw [add_plain] at h1
        rw [hget j hj', hmk]
        exact h1
    · intro W' hB sp hsp
      by_cases hm0 : m = 0
      · subst hm0
        obtain rfl : len = 0 := by omega
        have t0 := Deep.shut_slice_whole_cells (enc := enc) (P := Tryd.prog) (w := W') (base := 0) (spare := fun _ => true) (held := true) (a := a) (len := 0) (cap := 0) Tryd.underlying32 (Nat.zero_le _) (Nat.le_refl _) hm rfl (fun i => .lit (.string (Sx i).data.toList)) (fun _ => []) (fun i hi => by omega)
        obtain ⟨n, hn⟩ := t0
        have e : DataW.trod enc Tryd.prog W' 0 sp true n 32 [.slice (some a) 0 0] = DataW.trod enc Tryd.prog W' 0 (fun _ => true) true n 32 [.slice (some a) 0 0] := by
          cases n with
          | zero => rfl
          | succ n => simp [DataW.trod, Tryd.underlying32]
        exact ⟨n, by simpa [Value.cells, e] using hn⟩
      · obtain ⟨b, off, spot⟩ := a
        have hspot : spot = none := by simpa [Addr.add] using World.cell?_spot (hcell 0 (by omega)).1
        subst hspot
        have hspb : sp b = true := hsp (.cell b off) (MemPlace.mem_row.2 ⟨0, by omega, by simp⟩)
        have hlt' := hrow (by omega)
        obtain ⟨n, hn⟩ := Deep.shut_strs_whole (enc := enc) (P := Tryd.prog) (w := W') (base := 0) (spare := sp) (held := true) (b := b) (off := off) (len := len) (cap := m) Tryd.underlying32 Tryd.underlying9 cellsS (Nat.zero_le _) hl hm hspb Sx
          (fun i hi => (hB.cell (p := ⟨b, off + i, none⟩) hlt').trans (by have h1 := (hcell i hi).1; rwa [add_plain] at h1)) (fun i hi => (hcell i hi).2)
        exact ⟨n, by simpa [Value.cells] using hn⟩
end
end Go.Proofs.YtkjiinhcmhoejaaDoor
