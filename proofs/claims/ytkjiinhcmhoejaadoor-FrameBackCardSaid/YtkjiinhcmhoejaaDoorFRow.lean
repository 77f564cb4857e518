/- What the rows of this layer's laws share: what an argument reads as; the listed table; the witness. -/
import Derived.Test.YtkjiinhcmhoejaaDoorRows
import Derived.Test.YtkjiinhcmhoejaaDoorTie
import Derived.Test.YtkjiinhcmhoejaaDoorCards
import Derived.Test.YtkjiinhcmhoejaaDoorFMake
import Derived.ProofKit
import Derived.OpenShut
import Derived.LaidMore
import Derived.Lib.LaidTab
import Derived.Stop.Joined
import Derived.Stop.LaidTwo
import Derived.Lib.SmallJoins
import Derived.ShutString
import Derived.SevenTiedAt
import Derived.Deep.Strs
namespace Go.Proofs.YtkjiinhcmhoejaaDoor
open Go.ChangeShapes Go.WideShapes Go.ChangeAt Go.RowKit Go.Joins
open Go.ChangeMaps (open_string shut_string)

theorem own : ownKnob Tryd.prog.godebug = none := by kernel_rfl
theorem gSteps : Tryd.prog.globalNamed "tesserae/frame.steps" = some 0 := by kernel_rfl
theorem tSteps : (Tryd.prog.globals[0]?).map (·.type) = some 53 := by kernel_rfl
theorem cellsU : Tryd.prog.cellsOf 29 = 1 := by kernel_rfl
theorem cellsA : Tryd.prog.cellsOf 53 = 16 := by kernel_rfl
theorem cellsS : Tryd.prog.cellsOf 9 = 1 := by kernel_rfl

/-- The listed variable. -/
def laid1 : List (String × DataW Unit) := [("tesserae/frame.steps", Rows.laid_tesserae_frame_steps)]

theorem tab_of_laid {W : World} (h : laidMet Tryd.prog laid1 W) : Tab W := by
  have hT : Lib.TabIs Tryd.prog W "tesserae/frame.steps" .u32 tab := Lib.tabIs_of_head (rest := []) gSteps tSteps Tryd.underlying53 Tryd.underlying29 cellsU cellsA h
  intro i hi
  have := hT.cell gSteps i (by simpa [tab] using hi)
  rw [this, tabN_int i hi]

theorem laid_plain (w : World) : laidMetH Tryd.prog laid1 w = laidMet Tryd.prog laid1 w := MakeChecks.laidMetH_plain _ _ _ (by kernel_rfl)
theorem door_met (os : Os) (args : Array Value) : laidMetH Tryd.prog laid1 ((World.doorLaid Tryd.prog 14 os).forCall (fun _ _ => 0) ⟨#[], args, []⟩).memory :=
  laidMetH_of_parts3 (fuel := 8) (laidMet_of_run' 8 (by kernel_rfl) (by kernel_rfl)) (by kernel_rfl) (by kernel_rfl)

theorem i64_of_wf {n : Int} (h : (Lit.int .i64 n).wf = true) : -9223372036854775808 ≤ n ∧ n ≤ 9223372036854775807 := by
  simp only [Lit.wf, Bool.and_eq_true, decide_eq_true_eq] at h; exact h
theorem u8_of_wf {n : Int} (h : (Lit.int .u8 n).wf = true) : ∃ m : UInt8, n = (m.toNat : Int) := by
  simp only [Lit.wf, Bool.and_eq_true, decide_eq_true_eq] at h
  have h1 : 0 ≤ n := h.1
  have h2 : n ≤ 255 := h.2
  exact ⟨UInt8.ofNat n.toNat, by rw [ofNat_toNat _ (by omega)]; omega⟩

section
variable {H : Type} {enc : TypeId × Value → H} {w : World} {base : Nat} {spare : Nat → Bool} {held : Bool}
/-- A text: its bytes; it reads so wherever it is read. -/
theorem open_text {r : Reach} {b0 : Nat} {v : Value} {d : DataW H} {p : List MemPlace} (hv : Value.okWide Tryd.prog w r b0 9 v) (h : DataW.Trod enc Tryd.prog w base spare held 9 v d p) :
    ∃ l : List UInt8, v = .string ⟨l.toArray⟩ ∧ l.length ≤ 9223372036854775807 ∧ p = [] ∧
      ∀ (w' : World) (base' : Nat) (sp : Nat → Bool) (hd : Bool), DataW.Trod enc Tryd.prog w' base' sp hd 9 (.string ⟨l.toArray⟩) d [] := by
  obtain ⟨s, rfl, rfl, rfl, hs⟩ := open_string Tryd.underlying9 hv h
  have e : (⟨s.data.toList.toArray⟩ : ByteArray) = s := by cases s; simp
  have hl : s.data.toList.length ≤ 9223372036854775807 := by
    unfold maxLen at hs
    rw [Array.length_toList]
    exact hs
  refine ⟨s.data.toList, by rw [e], hl, rfl, fun w' base' sp hd => ?_⟩
  rw [e]
  exact shut_string Tryd.underlying9 hs
end
end Go.Proofs.YtkjiinhcmhoejaaDoor
