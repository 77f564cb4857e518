/- What the rows of this layer's laws share: what an argument reads as. -/
import Derived.Test.YtpjcndfamhehlaaRows
import Derived.Test.YtpjcndfamhehlaaCShown
import Derived.ProofKit
import Derived.OpenShut
import Derived.Lib.SmallJoins
import Derived.ShutString
namespace Go.Proofs.Ytpjcndfamhehlaa
open Go.ChangeShapes Go.WideShapes Go.ChangeAt Go.RowKit Go.Joins

theorem own : ownKnob Try.prog.godebug = none := by kernel_rfl
theorem i64_of_wf {n : Int} (h : (Lit.int .i64 n).wf = true) : -9223372036854775808 ≤ n ∧ n ≤ 9223372036854775807 := by
  simp only [Lit.wf, Bool.and_eq_true, decide_eq_true_eq] at h; exact h
section
variable {H : Type} {enc : TypeId × Value → H}
theorem cellsI : Try.prog.cellsOf 3 = 1 := by kernel_rfl
set_option maxRecDepth 100000 in
theorem in64_of {zs : List Int} (h : ∀ n ∈ zs, (Lit.int .i64 n).wf = true) : In64 zs := fun j => by
  by_cases hj : j < zs.length
  · rw [List.getElem?_eq_getElem hj]
    exact i64_of_wf (h _ (List.getElem_mem hj))
  · rw [List.getElem?_eq_none (by omega)]
    decide
set_option maxRecDepth 100000 in
/-- Numbers in a slice: they lie in old memory, and read as before wherever that lies as it lay. -/
theorem open_numbers {W : World} {r : Reach} {b0 : Nat} {v : Value} {d : DataW H} {p : List MemPlace} (hv : Value.okWide Try.prog W r b0 24 v) (h : DataW.Trod enc Try.prog W 0 (fun _ => true) true 24 v d p) (hlt : ∀ q ∈ p, q.block < W.heap.size) :
    ∃ (x : Option Addr) (len cap : Nat) (zs : List Int), v = .slice x len cap ∧ len ≤ cap ∧ cap ≤ 9223372036854775807 ∧ zs.length = len ∧ In64 zs ∧ Ints W.heap.size W v zs ∧
      ∀ W', Below W.heap.size W W' → ∀ sp : Nat → Bool, (∀ q ∈ p, sp q.block = true) → DataW.Trod enc Try.prog W' 0 sp true 24 v d p := by
  obtain ⟨x, len, cap, rfl⟩ := okWide_slice Try.underlying24 hv
  obtain ⟨fuel, hf⟩ := h
  rcases open_ints Try.underlying24 Try.underlying3 cellsI hf with ⟨hcs, hx⟩ | ⟨a, len', cap', zs, hcs, _, hl, hm, hz, hx, hcell, hwz⟩
  · simp [Value.cells] at hcs
    obtain ⟨rfl, rfl, rfl⟩ := hcs
    simp only [Prod.mk.injEq] at hx
    obtain ⟨rfl, rfl⟩ := hx
    exact ⟨none, 0, 0, [], rfl, Nat.le_refl _, by decide, rfl, fun j => by simp, .inl ⟨⟨none, 0, rfl⟩, rfl⟩, fun W' _ sp _ => shut_slice_nil Try.underlying24⟩
  · simp [Value.cells] at hcs
    obtain ⟨rfl, rfl, rfl⟩ := hcs
    simp only [Prod.mk.injEq] at hx
    obtain ⟨rfl, rfl⟩ := hx
    simp only [if_true] at hz
    have hm' : cap ≤ 9223372036854775807 := by unfold maxLen at hm; omega
    have htl : (zs.take len).length = len := by rw [List.length_take]; omega
    have hblk : 0 < zs.length → a.block < W.heap.size := fun h0 => hlt (.cell a.block a.off) (MemPlace.mem_row.2 ⟨0, h0, by simp⟩)
    refine ⟨some a, len, cap, zs.take len, rfl, hl, hm', htl, in64_of (fun n hn => hwz n (List.mem_of_mem_take hn)), ?_, ?_⟩
    · by_cases hl0 : len = 0
      · subst hl0
        exact .inl ⟨⟨some a, cap, rfl⟩, by simp⟩
      · obtain ⟨b, off, spot⟩ := a
        have hspot : spot = none := by simpa [Addr.add] using World.cell?_spot (hcell 0 (by omega))
        subst hspot
        refine .inr ⟨b, off, cap, by rw [htl], hblk (by omega), fun j hj => ?_⟩
        rw [htl] at hj
        have h1 := hcell j (by omega)
        rw [add_plain] at h1
        rw [h1, List.getElem?_take, if_pos hj]
        rfl
    · intro W' hB sp hsp
      by_cases hz0 : zs.length = 0
      · have hc0 : cap = 0 := by omega
        have hl0 : len = 0 := by omega
        subst hc0; subst hl0
        have t0 := shut_ints (enc := enc) (w := W') (base := 0) (spare := sp) (held := true) (a := a) (len := 0) (cap := 0) (zs := zs) 0 Try.underlying24 Try.underlying3 cellsI (Nat.zero_le _) (Nat.le_refl _) hm (by simp [hz0]) (fun i hi => by omega) hwz
        exact ⟨2, by simpa [Value.cells] using t0⟩
      · have hspb : sp a.block = true := hsp (.cell a.block a.off) (MemPlace.mem_row.2 ⟨0, by omega, by simp⟩)
        have hlt' := hblk (by omega)
        have t0 := shut_ints (enc := enc) (w := W') (base := 0) (spare := sp) (held := true) (a := a) (len := len) (cap := cap) (zs := zs) 0 Try.underlying24 Try.underlying3 cellsI (Nat.zero_le _) hl hm (by simp [hspb, hz]) (fun i hi => (hB.cell (by rw [block_add]; exact hlt')).trans (hcell i hi)) hwz
        exact ⟨2, by simpa [Value.cells] using t0⟩
end
end Go.Proofs.Ytpjcndfamhehlaa
