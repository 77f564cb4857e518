/-
  No cell of these rows narrows 'for every input' (looked for: loops, veiled, ifaces, maps, wideKeys, modest, calm, conditions, laid).
  DERIVED. THE GIVEN ROWS OF THIS SEAT. 5 by the template 'for every input the law returns true; each argument reads behind the call as it read before'; 0 by the template 'total and deterministic' (their statements: YtbfchlfagdhglaaTotals.lean).
  GIVEN WITH THE SEED: the statements are not yours to turn. If you find one false, say at which input.
  Laid BY PROGRAM, IN A SANDBOX (cutbox-rows.mjs): the forced cells as the released guide's own fill.sh prints them over the translation bf2a236c9321f06b… (all of the seat's roots in one cut). By AI agents, Wed Nov 11 2026. No macro, syntax, notation, axiom, sorry.
-/
import Derived.Test.YtbfchlfagdhglaaChecked
import GoSem.Claim
import GoSem.ClaimJoined
import GoSem.ClaimMapViews
import Derived.JoinedTies
import Derived.KernelRfl
namespace Go.Proofs.Ytbfchlfagdhglaa
/- THE CELL 'sum', in the pinned program and in every row, IS THE sha256 OF THE DUMP (.gsa) THAT YtbfchlfagdhglaaProg.lean LOADS. Nothing in Lean hashes anything: it is a label: what it is worth is what the hold of that sum in a sandbox is worth. -/
noncomputable def Try.pinned : Pinned := { name := "ytbfchlfagdhglaa", sum := "bf2a236c9321f06b4f95578b75c8e249cc173d42b8271d2c90b30f6b93b2f50b", checked := Try.checked }
namespace Rows
def none {H : Type} : Left H := { results := [], args := [] }

/-- 'tesseraelaw07.RoarMakes': WHATEVER THE INPUT: true; the input reads as it did. -/
def roarMakesSpec : ChangeSpec := { name := "roarMakes", fn := fun _ => fun
  | [d1, d2, d3, d4] => { results := [.lit (.bool true)], args := [d1, d2, d3, d4] }
  | _ => none }
def roarMakesRow : OpenClaim := { program := "ytbfchlfagdhglaa", sum := "bf2a236c9321f06b4f95578b75c8e249cc173d42b8271d2c90b30f6b93b2f50b", func := "tesserae/tesseraelaw07.RoarMakes", spec := "roarMakes", unfollowed := true, recurses := true, apart := false }
def RoarMakesSaid : Prop := roarMakesRow.holds Try.pinned (OpenSpec.ofChange roarMakesSpec)

/-- ITS FALSE NEIGHBOUR: 'it returns false'. Refute it at one input. -/
def roarMakesWrong : ChangeSpec := { name := "roarMakes", fn := fun _ => fun
  | [d1, d2, d3, d4] => { results := [.lit (.bool false)], args := [d1, d2, d3, d4] }
  | _ => none }
def RoarMakesWrongFalsely : Prop := roarMakesRow.holds Try.pinned (OpenSpec.ofChange roarMakesWrong)

/-- 'tesseraelaw07.RoarOps': WHATEVER THE INPUT: true; the input reads as it did. -/
def roarOpsSpec : ChangeSpec := { name := "roarOps", fn := fun _ => fun
  | [d1, d2, d3, d4, d5] => { results := [.lit (.bool true)], args := [d1, d2, d3, d4, d5] }
  | _ => none }
def roarOpsRow : OpenClaim := { program := "ytbfchlfagdhglaa", sum := "bf2a236c9321f06b4f95578b75c8e249cc173d42b8271d2c90b30f6b93b2f50b", func := "tesserae/tesseraelaw07.RoarOps", spec := "roarOps", unfollowed := true, recurses := true, apart := false }
def RoarOpsSaid : Prop := roarOpsRow.holds Try.pinned (OpenSpec.ofChange roarOpsSpec)

/-- ITS FALSE NEIGHBOUR: 'it returns false'. Refute it at one input. -/
def roarOpsWrong : ChangeSpec := { name := "roarOps", fn := fun _ => fun
  | [d1, d2, d3, d4, d5] => { results := [.lit (.bool false)], args := [d1, d2, d3, d4, d5] }
  | _ => none }
def RoarOpsWrongFalsely : Prop := roarOpsRow.holds Try.pinned (OpenSpec.ofChange roarOpsWrong)

/-- 'tesseraelaw07.RoarRules': WHATEVER THE INPUT: true; the input reads as it did. -/
def roarRulesSpec : ChangeSpec := { name := "roarRules", fn := fun _ => fun
  | [d1, d2, d3] => { results := [.lit (.bool true)], args := [d1, d2, d3] }
  | _ => none }
def roarRulesRow : OpenClaim := { program := "ytbfchlfagdhglaa", sum := "bf2a236c9321f06b4f95578b75c8e249cc173d42b8271d2c90b30f6b93b2f50b", func := "tesserae/tesseraelaw07.RoarRules", spec := "roarRules", unfollowed := true, recurses := true, apart := false }
def RoarRulesSaid : Prop := roarRulesRow.holds Try.pinned (OpenSpec.ofChange roarRulesSpec)

/-- ITS FALSE NEIGHBOUR: 'it returns false'. Refute it at one input. -/
def roarRulesWrong : ChangeSpec := { name := "roarRules", fn := fun _ => fun
  | [d1, d2, d3] => { results := [.lit (.bool false)], args := [d1, d2, d3] }
  | _ => none }
def RoarRulesWrongFalsely : Prop := roarRulesRow.holds Try.pinned (OpenSpec.ofChange roarRulesWrong)

/-- 'tesseraelaw07.RoarPlaces': WHATEVER THE INPUT: true; the input reads as it did. -/
def roarPlacesSpec : ChangeSpec := { name := "roarPlaces", fn := fun _ => fun
  | [d1, d2] => { results := [.lit (.bool true)], args := [d1, d2] }
  | _ => none }
def roarPlacesRow : OpenClaim := { program := "ytbfchlfagdhglaa", sum := "bf2a236c9321f06b4f95578b75c8e249cc173d42b8271d2c90b30f6b93b2f50b", func := "tesserae/tesseraelaw07.RoarPlaces", spec := "roarPlaces", unfollowed := true, recurses := true, apart := false }
def RoarPlacesSaid : Prop := roarPlacesRow.holds Try.pinned (OpenSpec.ofChange roarPlacesSpec)

/-- ITS FALSE NEIGHBOUR: 'it returns false'. Refute it at one input. -/
def roarPlacesWrong : ChangeSpec := { name := "roarPlaces", fn := fun _ => fun
  | [d1, d2] => { results := [.lit (.bool false)], args := [d1, d2] }
  | _ => none }
def RoarPlacesWrongFalsely : Prop := roarPlacesRow.holds Try.pinned (OpenSpec.ofChange roarPlacesWrong)

/-- 'tesseraelaw07.RoarSpans': WHATEVER THE INPUT: true; the input reads as it did. -/
def roarSpansSpec : ChangeSpec := { name := "roarSpans", fn := fun _ => fun
  | [d1, d2, d3, d4] => { results := [.lit (.bool true)], args := [d1, d2, d3, d4] }
  | _ => none }
def roarSpansRow : OpenClaim := { program := "ytbfchlfagdhglaa", sum := "bf2a236c9321f06b4f95578b75c8e249cc173d42b8271d2c90b30f6b93b2f50b", func := "tesserae/tesseraelaw07.RoarSpans", spec := "roarSpans", unfollowed := true, recurses := true, apart := false }
def RoarSpansSaid : Prop := roarSpansRow.holds Try.pinned (OpenSpec.ofChange roarSpansSpec)

/-- ITS FALSE NEIGHBOUR: 'it returns false'. Refute it at one input. -/
def roarSpansWrong : ChangeSpec := { name := "roarSpans", fn := fun _ => fun
  | [d1, d2, d3, d4] => { results := [.lit (.bool false)], args := [d1, d2, d3, d4] }
  | _ => none }
def RoarSpansWrongFalsely : Prop := roarSpansRow.holds Try.pinned (OpenSpec.ofChange roarSpansWrong)

/- THE SECOND FORM. 'bulk': how many values and letters a reading holds, each counted each time it is reached (what is shared counts as often as it is met; a slice's spare places count too). A statement '..UptoSaid' is the law's where the arguments, and the package variables that the reading takes, are together of bulk at most 1048576: NARROWER than '..Said'. Prove '..Said' where nothing that the law and all that it calls make is longer than what came in: it says more and counts as full. Else prove '..UptoSaid'. A law counts once. -/
mutual
def uptoBulk {H : Type} : DataW H → Nat
  | .lit (.string bytes) => bytes.length + 1
  | .lit _ => 1
  | .nil => 1
  | .ptr d => uptoBulk d + 1
  | .slice elems spare => uptoBulkAll elems + uptoBulkAll spare + 1
  | .agg parts => uptoBulkAll parts + 1
  | .iface _ d => uptoBulk d + 1
  | .map entries => uptoBulkEntries entries + 1
  | .held _ => 1
def uptoBulkAll {H : Type} : List (DataW H) → Nat
  | [] => 0
  | d :: r => uptoBulk d + uptoBulkAll r
def uptoBulkEntries {H : Type} : List (Lit × DataW H) → Nat
  | [] => 0
  | x :: r => uptoBulkEntry x + uptoBulkEntries r
def uptoBulkEntry {H : Type} : Lit × DataW H → Nat
  | (.string bytes, d) => bytes.length + uptoBulk d + 1
  | (_, d) => uptoBulk d + 1
 end
def uptoSmall : (H : Type) → List (DataW H) → Bool := fun _ ds => decide (uptoBulkAll ds ≤ 1048576)
def OpenSpec.upto (s : _root_.Go.ChangeSpec) : _root_.Go.OpenSpec := { _root_.Go.OpenSpec.ofChange s with cond := some uptoSmall }

/-- 'tesseraelaw07.RoarMakes', WHERE WHAT IT READS IS OF BULK AT MOST 1048576: true; the input reads as it did. -/
def roarMakesUptoRow : OpenClaim := { program := "ytbfchlfagdhglaa", sum := "bf2a236c9321f06b4f95578b75c8e249cc173d42b8271d2c90b30f6b93b2f50b", func := "tesserae/tesseraelaw07.RoarMakes", spec := "roarMakes", unfollowed := true, recurses := true, apart := false, narrowed := true }
def RoarMakesUptoSaid : Prop := roarMakesUptoRow.holds Try.pinned (OpenSpec.upto roarMakesSpec)

/-- 'tesseraelaw07.RoarOps', WHERE WHAT IT READS IS OF BULK AT MOST 1048576: true; the input reads as it did. -/
def roarOpsUptoRow : OpenClaim := { program := "ytbfchlfagdhglaa", sum := "bf2a236c9321f06b4f95578b75c8e249cc173d42b8271d2c90b30f6b93b2f50b", func := "tesserae/tesseraelaw07.RoarOps", spec := "roarOps", unfollowed := true, recurses := true, apart := false, narrowed := true }
def RoarOpsUptoSaid : Prop := roarOpsUptoRow.holds Try.pinned (OpenSpec.upto roarOpsSpec)

/-- 'tesseraelaw07.RoarRules', WHERE WHAT IT READS IS OF BULK AT MOST 1048576: true; the input reads as it did. -/
def roarRulesUptoRow : OpenClaim := { program := "ytbfchlfagdhglaa", sum := "bf2a236c9321f06b4f95578b75c8e249cc173d42b8271d2c90b30f6b93b2f50b", func := "tesserae/tesseraelaw07.RoarRules", spec := "roarRules", unfollowed := true, recurses := true, apart := false, narrowed := true }
def RoarRulesUptoSaid : Prop := roarRulesUptoRow.holds Try.pinned (OpenSpec.upto roarRulesSpec)

/-- 'tesseraelaw07.RoarPlaces', WHERE WHAT IT READS IS OF BULK AT MOST 1048576: true; the input reads as it did. -/
def roarPlacesUptoRow : OpenClaim := { program := "ytbfchlfagdhglaa", sum := "bf2a236c9321f06b4f95578b75c8e249cc173d42b8271d2c90b30f6b93b2f50b", func := "tesserae/tesseraelaw07.RoarPlaces", spec := "roarPlaces", unfollowed := true, recurses := true, apart := false, narrowed := true }
def RoarPlacesUptoSaid : Prop := roarPlacesUptoRow.holds Try.pinned (OpenSpec.upto roarPlacesSpec)

/-- 'tesseraelaw07.RoarSpans', WHERE WHAT IT READS IS OF BULK AT MOST 1048576: true; the input reads as it did. -/
def roarSpansUptoRow : OpenClaim := { program := "ytbfchlfagdhglaa", sum := "bf2a236c9321f06b4f95578b75c8e249cc173d42b8271d2c90b30f6b93b2f50b", func := "tesserae/tesseraelaw07.RoarSpans", spec := "roarSpans", unfollowed := true, recurses := true, apart := false, narrowed := true }
def RoarSpansUptoSaid : Prop := roarSpansUptoRow.holds Try.pinned (OpenSpec.upto roarSpansSpec)

end Rows
end Go.Proofs.Ytbfchlfagdhglaa
