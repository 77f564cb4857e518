/- What the rows of this layer's laws share: what an argument reads as; the listed variables; the witness. -/
import Derived.Test.YtmimepjokkcbeaaDoorRows
import Derived.Test.YtmimepjokkcbeaaDoorTie
import Derived.Test.YtmimepjokkcbeaaDoorCards
import Derived.Test.YtmimepjokkcbeaaDoorVIs
import Derived.Test.YtmimepjokkcbeaaDoorVInts
import Derived.ProofKit
import Derived.OpenShut
import Derived.LaidMore
import Derived.Stop.Joined
import Derived.Stop.LaidTwo
import Derived.Lib.SmallJoins
import Derived.ShutString
import Derived.SevenTiedAt
namespace Go.Proofs.YtmimepjokkcbeaaDoor
open Go.ChangeShapes Go.WideShapes Go.ChangeAt Go.RowKit Go.Joins
open Go.ChangeMaps (open_string shut_string)

theorem own : ownKnob Tryd.prog.godebug = none := by kernel_rfl
theorem gMore : Tryd.prog.globalNamed "tesserae/varint.errMore" = some 2 := by kernel_rfl
theorem gNone : Tryd.prog.globalNamed "tesserae/varint.errNone" = some 3 := by kernel_rfl
theorem tMore : (Tryd.prog.globals[2]?).map (·.type) = some 67 := by kernel_rfl
theorem tNone : (Tryd.prog.globals[3]?).map (·.type) = some 67 := by kernel_rfl
theorem cellsE : Tryd.prog.cellsOf 133 = 1 := by kernel_rfl
theorem cellsS : Tryd.prog.cellsOf 9 = 1 := by kernel_rfl
theorem starE : "*" ++ "errors.errorString" = "*errors.errorString" := by decide
theorem rowE (u : TypeId) (h : Tryd.prog.typeName? 3 u = some "*errors.errorString") : u = 108 :=
  typeName_ptr_named (nm := "errors.errorString") (by rw [starE]; kernel_rfl) (by kernel_rfl) (by decide) u (by rw [starE]; exact h)

/-- The listed variables. -/
def laid2 : List (String × DataW Unit) := [("tesserae/varint.errMore", Rows.laid_tesserae_varint_errMore), ("tesserae/varint.errNone", Rows.laid_tesserae_varint_errNone)]

theorem sent_of_laid {W : World} (h : laidMet Tryd.prog laid2 W) : ∃ a b, Sent W.heap.size W a b := by
  obtain ⟨a0, a1, s0, s1, c0, c1, t0, t1, hv0, hv1, hc0, hs0, hz0, hc1, hs1, hz1, hne, hb0, hb1⟩ := laid_sentinels2 h gMore tMore gNone tNone Tryd.underlying67 rowE Tryd.underlying108 Tryd.underlying133 rfl rfl Tryd.underlying9 cellsE cellsS
  have e0 := World.var?_cell gMore hv0 0
  have e1 := World.var?_cell gNone hv1 0
  have l0 := World.block_lt_of_cell? W _ e0
  have l1 := World.block_lt_of_cell? W _ e1
  exact ⟨a0, a1, l0, l1, hne, (Array.getElem?_eq_some_iff.1 hb0).1, (Array.getElem?_eq_some_iff.1 hb1).1, by simpa using e0, by simpa using e1, ⟨_, _, hb0⟩, ⟨_, _, hb1⟩⟩

theorem laid_plain (w : World) : laidMetH Tryd.prog laid2 w = laidMet Tryd.prog laid2 w := MakeChecks.laidMetH_plain _ _ _ (by kernel_rfl)
theorem door_met (os : Os) (args : Array Value) : laidMetH Tryd.prog laid2 ((World.doorLaid Tryd.prog 47 os).forCall (fun _ _ => 0) ⟨#[], args, []⟩).memory :=
  laidMetH_of_parts3 (fuel := 8) (laidMet_of_run' 8 (by kernel_rfl) (by kernel_rfl)) (by kernel_rfl) (by kernel_rfl)

set_option maxRecDepth 100000 in
theorem i64_of_wf {n : Int} (h : (Lit.int .i64 n).wf = true) : -9223372036854775808 ≤ n ∧ n ≤ 9223372036854775807 := by
  simp only [Lit.wf, Bool.and_eq_true, decide_eq_true_eq] at h; exact h
theorem u64_of_wf {n : Int} (h : (Lit.int .u64 n).wf = true) : ∃ m : Nat, n = m ∧ m < 18446744073709551616 := by
  simp only [Lit.wf, Bool.and_eq_true, decide_eq_true_eq] at h
  have h1 : 0 ≤ n := h.1
  have h2 : n ≤ 18446744073709551615 := h.2
  exact ⟨n.toNat, by omega, by omega⟩

section
variable {H : Type} {enc : TypeId × Value → H} {w : World} {base : Nat} {spare : Nat → Bool} {held : Bool}
set_option maxRecDepth 100000 in
/-- A text: its bytes; it reads so wherever it is read. -/
theorem open_text {r : Reach} {b0 : Nat} {v : Value} {d : DataW H} {p : List MemPlace} (hv : Value.okWide Tryd.prog w r b0 9 v) (h : DataW.Trod enc Tryd.prog w base spare held 9 v d p) :
    ∃ l : List UInt8, v = .string ⟨l.toArray⟩ ∧ l.length ≤ 9223372036854775807 ∧ p = [] ∧
      ∀ (w' : World) (base' : Nat) (sp : Nat → Bool) (hd : Bool), DataW.Trod enc Tryd.prog w' base' sp hd 9 (.string ⟨l.toArray⟩) d [] := by
  obtain ⟨s, rfl, rfl, rfl, hs⟩ := open_string Tryd.underlying9 hv h
  have e : (⟨s.data.toList.toArray⟩ : ByteArray) = s := by cases s; simp
  have hl : s.data.toList.length ≤ 9223372036854775807 := by
    unfold maxLen at hs
    rw [Array.length_toList]
    exact hs
  refine ⟨s.data.toList, by rw [e], hl, rfl, fun w' base' sp hd => ?_⟩
  rw [e]
  exact shut_string Tryd.underlying9 hs
end

section
variable {H : Type} {enc : TypeId × Value → H}
theorem cellsI : Tryd.prog.cellsOf 3 = 1 := by kernel_rfl
set_option maxRecDepth 100000 in
theorem in64_of {zs : List Int} (h : ∀ n ∈ zs, (Lit.int .i64 n).wf = true) : In64 zs := fun j => by
  by_cases hj : j < zs.length
  · rw [List.getElem?_eq_getElem hj]
    exact i64_of_wf (h _ (List.getElem_mem hj))
  · rw [List.getElem?_eq_none (by omega)]
    decide
set_option maxRecDepth 100000 in
/-- Numbers in a slice: they lie in old memory, and read as before wherever that lies as it lay. -/
theorem open_numbers {W : World} {r : Reach} {b0 : Nat} {v : Value} {d : DataW H} {p : List MemPlace} (hv : Value.okWide Tryd.prog W r b0 22 v) (h : DataW.Trod enc Tryd.prog W 0 (fun _ => true) true 22 v d p) (hlt : ∀ q ∈ p, q.block < W.heap.size) :
    ∃ (x : Option Addr) (len cap : Nat) (zs : List Int), v = .slice x len cap ∧ len ≤ cap ∧ cap ≤ 9223372036854775807 ∧ zs.length = len ∧ In64 zs ∧ Ints W.heap.size W v zs ∧
      ∀ W', Below W.heap.size W W' → ∀ sp : Nat → Bool, (∀ q ∈ p, sp q.block = true) → DataW.Trod enc Tryd.prog W' 0 sp true 22 v d p := by
  obtain ⟨x, len, cap, rfl⟩ := okWide_slice Tryd.underlying22 hv
  obtain ⟨fuel, hf⟩ := h
  rcases open_ints Tryd.underlying22 Tryd.underlying3 cellsI hf with ⟨hcs, hx⟩ | ⟨a, len', cap', zs, hcs, _, hl, hm, hz, hx, hcell, hwz⟩
  · simp [Value.cells] at hcs
    obtain ⟨rfl, rfl, rfl⟩ := hcs
    simp only [Prod.mk.injEq] at hx
    obtain ⟨rfl, rfl⟩ := hx
    exact ⟨none, 0, 0, [], rfl, Nat.le_refl _, by decide, rfl, fun j => by simp, .inl ⟨⟨none, 0, rfl⟩, rfl⟩, fun W' _ sp _ => shut_slice_nil Tryd.underlying22⟩
  · simp [Value.cells] at hcs
    obtain ⟨rfl, rfl, rfl⟩ := hcs
    simp only [Prod.mk.injEq] at hx
    obtain ⟨rfl, rfl⟩ := hx
    simp only [if_true] at hz
    have hm' : cap ≤ 9223372036854775807 := by unfold maxLen at hm; omega
    have htl : (zs.take len).length = len := by rw [List.length_take]; omega
    have hblk : 0 < zs.length → a.block < W.heap.size := fun h0 => hlt (.cell a.block a.off) (MemPlace.mem_row.2 ⟨0, h0, by simp⟩)
    refine ⟨some a, len, cap, zs.take len, rfl, hl, hm', htl, in64_of (fun n hn => hwz n (List.mem_of_mem_take hn)), ?_, ?_⟩
    · by_cases hl0 : len = 0
      · subst hl0
        exact .inl ⟨⟨some a, cap, rfl⟩, by simp⟩
      · obtain ⟨b, off, spot⟩ := a
        have hspot : spot = none := by simpa [Addr.add] using World.cell?_spot (hcell 0 (by omega))
        subst hspot
        refine .inr ⟨b, off, cap, by rw [htl], hblk (by omega), fun j hj => ?_⟩
        rw [htl] at hj
        have h1 := hcell j (by omega)
        rw [add_plain] at h1
        rw [h1, List.getElem?_take, if_pos hj]
        rfl
    · intro W' hB sp hsp
      by_cases hz0 : zs.length = 0
      · have hc0 : cap = 0 := by omega
        have hl0 : len = 0 := by omega
        subst hc0; subst hl0
        have t0 := shut_ints (enc := enc) (w := W') (base := 0) (spare := sp) (held := true) (a := a) (len := 0) (cap := 0) (zs := zs) 0 Tryd.underlying22 Tryd.underlying3 cellsI (Nat.zero_le _) (Nat.le_refl _) hm (by simp [hz0]) (fun i hi => by omega) hwz
        exact ⟨2, by simpa [Value.cells] using t0⟩
      · have hspb : sp a.block = true := hsp (.cell a.block a.off) (MemPlace.mem_row.2 ⟨0, by omega, by simp⟩)
        have hlt' := hblk (by omega)
        have t0 := shut_ints (enc := enc) (w := W') (base := 0) (spare := sp) (held := true) (a := a) (len := len) (cap := cap) (zs := zs) 0 Tryd.underlying22 Tryd.underlying3 cellsI (Nat.zero_le _) hl hm (by simp [hspb, hz]) (fun i hi => (hB.cell (by rw [block_add]; exact hlt')).trans (hcell i hi)) hwz
        exact ⟨2, by simpa [Value.cells] using t0⟩
end
end Go.Proofs.YtmimepjokkcbeaaDoor
