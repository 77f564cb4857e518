/- What the rows of this layer's laws share: what an argument reads as; the listed variables; the witness. -/
import Derived.Test.YthoegicchjadaaaDoorRows
import Derived.Test.YthoegicchjadaaaDoorTie
import Derived.Test.YthoegicchjadaaaDoorCards
import Derived.Test.YthoegicchjadaaaDoorDDec
import Derived.ProofKit
import Derived.OpenShut
import Derived.LaidMore
import Derived.Stop.Joined
import Derived.Stop.LaidTwo
import Derived.Lib.SmallJoins
import Derived.ShutString
import Derived.SevenTiedAt
import Derived.Deep.Strs
namespace Go.Proofs.YthoegicchjadaaaDoor
set_option maxRecDepth 100000
open Go.ChangeShapes Go.WideShapes Go.ChangeAt Go.RowKit Go.Joins
open Go.ChangeMaps (open_string shut_string)

theorem own : ownKnob Tryd.prog.godebug = none := by kernel_rfl
theorem gErr : Tryd.prog.globalNamed "errors.errorType" = some 0 := by kernel_rfl
theorem rtype_row : (Tryd.prog.cutTypes.find? (·.1 == "internal/reflectlite.rtype")).map (·.2) = some 115 := by kernel_rfl
theorem error_row : ((List.range Tryd.prog.types.size).filter fun t => Tryd.prog.rowNamed t [101, 114, 114, 111, 114]) = [62] := by kernel_rfl
theorem gMore : Tryd.prog.globalNamed "tesserae/varint.errMore" = some 1 := by kernel_rfl
theorem gNone : Tryd.prog.globalNamed "tesserae/varint.errNone" = some 2 := by kernel_rfl
theorem tMore : (Tryd.prog.globals[1]?).map (·.type) = some 62 := by kernel_rfl
theorem tNone : (Tryd.prog.globals[2]?).map (·.type) = some 62 := by kernel_rfl
theorem cellsE : Tryd.prog.cellsOf 183 = 1 := by kernel_rfl
theorem cellsS : Tryd.prog.cellsOf 9 = 1 := by kernel_rfl
theorem starE : "*" ++ "errors.errorString" = "*errors.errorString" := by decide
theorem rowE (u : TypeId) (h : Tryd.prog.typeName? 3 u = some "*errors.errorString") : u = 164 :=
  typeName_ptr_named (nm := "errors.errorString") (by rw [starE]; kernel_rfl) (by kernel_rfl) (by decide) u (by rw [starE]; exact h)

/-- The listed variables: the two errors, and, ahead of them, the type's handle. -/
def laid2 : List (String × DataW Unit) := [("tesserae/varint.errMore", Rows.laid_tesserae_varint_errMore), ("tesserae/varint.errNone", Rows.laid_tesserae_varint_errNone)]
def laid3 : List (String × DataW Unit) := ("errors.errorType", Rows.laid_errors_errorType) :: laid2

theorem sent_of_laid {W : World} (h : laidMet Tryd.prog laid2 W) : ∃ a b, Sent W.heap.size W a b := by
  obtain ⟨a0, a1, s0, s1, c0, c1, t0, t1, hv0, hv1, hc0, hs0, hz0, hc1, hs1, hz1, hne, hb0, hb1⟩ := laid_sentinels2 h gMore tMore gNone tNone Tryd.underlying62 rowE Tryd.underlying164 Tryd.underlying183 rfl rfl Tryd.underlying9 cellsE cellsS
  have e0 := World.var?_cell gMore hv0 0
  have e1 := World.var?_cell gNone hv1 0
  have l0 := World.block_lt_of_cell? W _ e0
  have l1 := World.block_lt_of_cell? W _ e1
  exact ⟨a0, a1, l0, l1, hne, (Array.getElem?_eq_some_iff.1 hb0).1, (Array.getElem?_eq_some_iff.1 hb1).1, by simpa using e0, by simpa using e1, ⟨_, _, hb0⟩, ⟨_, _, hb1⟩⟩

theorem parts_of_laid {W : World} (h : laidMetH Tryd.prog laid3 W) : laidMet Tryd.prog laid2 W ∧ handlesMet Tryd.prog [("errors.errorType", Rows.laid_errors_errorType)] W := h
theorem ety_of_laid {W : World} (h : laidMetH Tryd.prog laid3 W) : Ety W.heap.size W := by
  obtain ⟨name, u, ty, e1, e2, e3, e4, e5⟩ := (parts_of_laid h).2 _ (List.mem_singleton.2 rfl)
  have en : name = [101, 114, 114, 111, 114] := (Option.some.inj e1).symm
  subst en
  obtain rfl := Option.some.inj (rtype_row.symm.trans e2)
  have hm : ty ∈ (List.range Tryd.prog.types.size).filter fun t => Tryd.prog.rowNamed t [101, 114, 114, 111, 114] := List.mem_filter.2 ⟨List.mem_range.2 e3, e4⟩
  rw [error_row] at hm
  obtain rfl := List.mem_singleton.1 hm
  have hh : typeHandle Tryd.prog 62 = .pointer (some ⟨3, 62, none⟩) := by kernel_rfl
  rw [hh] at e5
  have hc := World.var?_cell gErr e5 0
  exact ⟨World.block_lt_of_cell? W _ hc, by simpa using hc⟩
/-- What the listed variables are. -/
theorem both_of_laid {W : World} (h : laidMetH Tryd.prog laid3 W) : (∃ a b, Sent W.heap.size W a b) ∧ Ety W.heap.size W := ⟨sent_of_laid (parts_of_laid h).1, ety_of_laid h⟩

theorem door_met (os : Os) (args : Array Value) : laidMetH Tryd.prog laid3 ((World.doorLaid Tryd.prog 54 os).forCall (fun _ _ => 0) ⟨#[], args, []⟩).memory :=
  laidMetH_of_parts3 (fuel := 8) (laidMet_of_run' 8 (by kernel_rfl) (by kernel_rfl)) (by kernel_rfl) (by kernel_rfl)

theorem i64_of_wf {n : Int} (h : (Lit.int .i64 n).wf = true) : -9223372036854775808 ≤ n ∧ n ≤ 9223372036854775807 := by
  simp only [Lit.wf, Bool.and_eq_true, decide_eq_true_eq] at h; exact h

section
variable {H : Type} {enc : TypeId × Value → H} {w : World} {base : Nat} {spare : Nat → Bool} {held : Bool}
/-- A text: its bytes; it reads so wherever it is read. -/
theorem open_text {r : Reach} {b0 : Nat} {v : Value} {d : DataW H} {p : List MemPlace} (hv : Value.okWide Tryd.prog w r b0 9 v) (h : DataW.Trod enc Tryd.prog w base spare held 9 v d p) :
    ∃ l : List UInt8, v = .string ⟨l.toArray⟩ ∧ l.length ≤ 9223372036854775807 ∧ p = [] ∧
      ∀ (w' : World) (base' : Nat) (sp : Nat → Bool) (hd : Bool), DataW.Trod enc Tryd.prog w' base' sp hd 9 (.string ⟨l.toArray⟩) d [] := by
  obtain ⟨s, rfl, rfl, rfl, hs⟩ := open_string Tryd.underlying9 hv h
  have e : (⟨s.data.toList.toArray⟩ : ByteArray) = s := by cases s; simp
  have hl : s.data.toList.length ≤ 9223372036854775807 := by
    unfold maxLen at hs
    rw [Array.length_toList]
    exact hs
  refine ⟨s.data.toList, by rw [e], hl, rfl, fun w' base' sp hd => ?_⟩
  rw [e]
  exact shut_string Tryd.underlying9 hs
end

section
variable {H : Type} {enc : TypeId × Value → H}
/-- Texts in a slice: they lie in old memory, and read as before wherever that lies as it lay. -/
theorem open_strings {W : World} {r : Reach} {b0 : Nat} {v : Value} {d : DataW H} {p : List MemPlace} (hv : Value.okWide Tryd.prog W r b0 22 v) (h : DataW.Trod enc Tryd.prog W 0 (fun _ => true) true 22 v d p) (hlt : ∀ q ∈ p, q.block < W.heap.size) :
    ∃ (x : Option Addr) (len cap : Nat) (ls : List (List UInt8)), v = .slice x len cap ∧ len ≤ cap ∧ cap ≤ 9223372036854775807 ∧ ls.length = len ∧ (∀ j : Nat, (ls[j]?.getD []).length ≤ 9223372036854775807) ∧ Strs W.heap.size W v ls ∧
      ∀ W', Below W.heap.size W W' → ∀ sp : Nat → Bool, (∀ q ∈ p, sp q.block = true) → DataW.Trod enc Tryd.prog W' 0 sp true 22 v d p := by
  obtain ⟨x, len, cap, rfl⟩ := okWide_slice Tryd.underlying22 hv
  obtain ⟨fuel, hf⟩ := h
  rcases Deep.open_strs Tryd.underlying22 Tryd.underlying9 cellsS hf with ⟨hcs, hx⟩ | ⟨a, len', cap', m, Sx, hcs, _, hl, hm, hmm, hx, hcell⟩
  · simp [Value.cells] at hcs
    obtain ⟨rfl, rfl, rfl⟩ := hcs
    simp only [Prod.mk.injEq] at hx
    obtain ⟨rfl, rfl⟩ := hx
    exact ⟨none, 0, 0, [], rfl, Nat.le_refl _, by decide, rfl, fun j => by simp, .inl ⟨⟨none, 0, rfl⟩, rfl⟩, fun W' _ sp _ => shut_slice_nil Tryd.underlying22⟩
  · simp [Value.cells] at hcs
    obtain ⟨rfl, rfl, rfl⟩ := hcs
    simp only [if_true] at hmm
    subst hmm
    simp only [Prod.mk.injEq] at hx
    obtain ⟨rfl, rfl⟩ := hx
    have hm' : m ≤ 9223372036854775807 := by unfold maxLen at hm; omega
    have hmk : ∀ i, (⟨(Sx i).data.toList.toArray⟩ : ByteArray) = Sx i := fun i => by simp
    have hget : ∀ j, j < len → (((List.range len).map fun i => (Sx i).data.toList)[j]?.getD []) = (Sx j).data.toList := fun j hj => by simp [hj]
    have hrow : 0 < m → a.block < W.heap.size := fun h0 => hlt (.cell a.block a.off) (MemPlace.mem_row.2 ⟨0, h0, by simp⟩)
    refine ⟨some a, len, m, (List.range len).map fun i => (Sx i).data.toList, rfl, hl, hm', by simp, fun j => ?_, ?_, ?_⟩
    · by_cases hj : j < len
      · rw [hget j hj]
        have := (hcell j (by omega)).2
        unfold maxLen at this
        rw [Array.length_toList]
        exact this
      · rw [List.getElem?_eq_none (by simp; omega)]
        decide
    · by_cases hl0 : len = 0
      · subst hl0
        exact .inl ⟨⟨some a, m, rfl⟩, by simp⟩
      · obtain ⟨b, off, spot⟩ := a
        have hspot : spot = none := by simpa [Addr.add] using World.cell?_spot (hcell 0 (by omega)).1
        subst hspot
        refine .inr ⟨b, off, m, by simp, hrow (by omega), fun j hj => ?_⟩
        have hj' : j < len := by simpa using hj
        have h1 := (hcell j (by omega)).1
        rw [add_plain] at h1
        rw [hget j hj', hmk]
        exact h1
    · intro W' hB sp hsp
      by_cases hm0 : m = 0
      · subst hm0
        obtain rfl : len = 0 := by omega
        have t0 := Deep.shut_slice_whole_cells (enc := enc) (P := Tryd.prog) (w := W') (base := 0) (spare := fun _ => true) (held := true) (a := a) (len := 0) (cap := 0) Tryd.underlying22 (Nat.zero_le _) (Nat.le_refl _) hm rfl (fun i => .lit (.string (Sx i).data.toList)) (fun _ => []) (fun i hi => by omega)
        obtain ⟨n, hn⟩ := t0
        have e : DataW.trod enc Tryd.prog W' 0 sp true n 22 [.slice (some a) 0 0] = DataW.trod enc Tryd.prog W' 0 (fun _ => true) true n 22 [.slice (some a) 0 0] := by
          cases n with
          | zero => rfl
          | succ n => simp [DataW.trod, Tryd.underlying22]
        exact ⟨n, by simpa [Value.cells, e] using hn⟩
      · obtain ⟨b, off, spot⟩ := a
        have hspot : spot = none := by simpa [Addr.add] using World.cell?_spot (hcell 0 (by omega)).1
        subst hspot
        have hspb : sp b = true := hsp (.cell b off) (MemPlace.mem_row.2 ⟨0, by omega, by simp⟩)
        have hlt' := hrow (by omega)
        obtain ⟨n, hn⟩ := Deep.shut_strs_whole (enc := enc) (P := Tryd.prog) (w := W') (base := 0) (spare := sp) (held := true) (b := b) (off := off) (len := len) (cap := m) Tryd.underlying22 Tryd.underlying9 cellsS (Nat.zero_le _) hl hm hspb Sx
          (fun i hi => (hB.cell (p := ⟨b, off + i, none⟩) hlt').trans (by have h1 := (hcell i hi).1; rwa [add_plain] at h1)) (fun i hi => (hcell i hi).2)
        exact ⟨n, by simpa [Value.cells] using hn⟩
end
end Go.Proofs.YthoegicchjadaaaDoor
