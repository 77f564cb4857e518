/-
  NARROWER THAN 'FOR EVERY INPUT', by the rows' own cells (each row's printed sentence says how): RoarCodes: laid · RoarBack: laid.
  DERIVED. THE GIVEN ROWS OF THIS SEAT. 2 by the template 'for every input the law returns true; each argument reads behind the call as it read before'; 0 by the template 'total and deterministic' (their statements: YtbfchlfagdhglaaDoorTotals.lean).
  GIVEN WITH THE SEED: the statements are not yours to turn. If you find one false, say at which input.
  Laid BY PROGRAM, IN A SANDBOX (cutbox-rows.mjs): the forced cells as the released guide's own fill.sh prints them over the translation 8a3bc9fd8bc123e7… (all of the seat's roots in one cut). By AI agents, Wed Nov 11 2026. No macro, syntax, notation, axiom, sorry.
-/
import Derived.Test.YtbfchlfagdhglaaDoorChecked
import GoSem.Claim
import GoSem.ClaimJoined
import GoSem.ClaimMapViews
import Derived.JoinedTies
import Derived.KernelRfl
namespace Go.Proofs.YtbfchlfagdhglaaDoor
/- THE CELL 'sum', in the pinned program and in every row, IS THE sha256 OF THE DUMP (.gsa) THAT YtbfchlfagdhglaaDoorProg.lean LOADS. Nothing in Lean hashes anything: it is a label: what it is worth is what the hold of that sum in a sandbox is worth. -/
noncomputable def Tryd.pinned : Pinned := { name := "ytbfchlfagdhglaadoor", sum := "8a3bc9fd8bc123e78e702a4abd723c768bcb9e1248983c6fe95512bf72148d76", checked := Tryd.checked }
namespace Rows
def none {H : Type} : Left H := { results := [], args := [] }

/- WHAT THE LISTED PACKAGE-LEVEL VARIABLES READ AS WHEN THE CALL BEGINS. Each datum BY PROGRAM (the guide's laid-datum.mjs) off the statement by which the dump's own 'gosem.cut.vars' lays the variable. In a bare row this is a premise. The card (YtbfchlfagdhglaaDoorCards.lean) ties it to the program's text. -/
def laid_tesserae_varint_errMore {H : Type} : DataW H := .iface "*errors.errorString" (.ptr (.agg [.lit (.string [116, 104, 101, 32, 98, 121, 116, 101, 115, 32, 101, 110, 100, 32, 119, 105, 116, 104, 105, 110, 32, 97, 32, 110, 117, 109, 98, 101, 114])]))
def laid_tesserae_varint_errNone {H : Type} : DataW H := .iface "*errors.errorString" (.ptr (.agg [.lit (.string [116, 104, 101, 32, 98, 121, 116, 101, 115, 32, 97, 114, 101, 32, 110, 111, 32, 110, 117, 109, 98, 101, 114, 39, 115, 44, 32, 111, 114, 32, 110, 111, 32, 108, 105, 115, 116, 39, 115])]))
def laid_tesserae_roar_errMore {H : Type} : DataW H := .iface "*errors.errorString" (.ptr (.agg [.lit (.string [116, 104, 101, 32, 98, 121, 116, 101, 115, 32, 101, 110, 100, 32, 119, 105, 116, 104, 105, 110, 32, 97, 32, 98, 105, 116, 109, 97, 112])]))
def laid_tesserae_roar_errVarint {H : Type} : DataW H := .iface "*errors.errorString" (.ptr (.agg [.lit (.string [104, 111, 119, 32, 109, 97, 110, 121, 32, 99, 104, 117, 110, 107, 115, 32, 116, 104, 101, 114, 101, 32, 97, 114, 101, 32, 105, 115, 32, 110, 111, 32, 118, 97, 114, 105, 110, 116])]))
def laid_tesserae_roar_errRoar {H : Type} : DataW H := .iface "*errors.errorString" (.ptr (.agg [.lit (.string [116, 104, 101, 32, 98, 121, 116, 101, 115, 32, 97, 114, 101, 32, 110, 111, 32, 98, 105, 116, 109, 97, 112, 39, 115])]))

/-- 'tesseraelaw07.RoarCodes': WHATEVER THE INPUT: true; the input reads as it did. -/
def roarCodesSpec : ChangeSpec := { name := "roarCodes", fn := fun _ => fun
  | [d1, d2] => { results := [.lit (.bool true)], args := [d1, d2] }
  | _ => none }
def roarCodesRow : OpenClaim := { program := "ytbfchlfagdhglaadoor", sum := "8a3bc9fd8bc123e78e702a4abd723c768bcb9e1248983c6fe95512bf72148d76", func := "tesserae/tesseraelaw07.RoarCodes", spec := "roarCodes", inPlace := ["internal/reflectlite.TypeOf"], unfollowed := true, recurses := true, named := ["tesserae/roar.errRoar", "tesserae/roar.errMore", "tesserae/roar.errVarint", "tesserae/varint.errMore", "tesserae/varint.errNone"], apart := false, laid := [("tesserae/varint.errMore", laid_tesserae_varint_errMore), ("tesserae/varint.errNone", laid_tesserae_varint_errNone), ("tesserae/roar.errMore", laid_tesserae_roar_errMore), ("tesserae/roar.errVarint", laid_tesserae_roar_errVarint), ("tesserae/roar.errRoar", laid_tesserae_roar_errRoar)] }
def RoarCodesSaid : Prop := roarCodesRow.holds Tryd.pinned (OpenSpec.ofChange roarCodesSpec)

/-- ITS FALSE NEIGHBOUR: 'it returns false'. Refute it at one input. -/
def roarCodesWrong : ChangeSpec := { name := "roarCodes", fn := fun _ => fun
  | [d1, d2] => { results := [.lit (.bool false)], args := [d1, d2] }
  | _ => none }
def RoarCodesWrongFalsely : Prop := roarCodesRow.holds Tryd.pinned (OpenSpec.ofChange roarCodesWrong)

/-- 'tesseraelaw07.RoarBack': WHATEVER THE INPUT: true; the input reads as it did. -/
def roarBackSpec : ChangeSpec := { name := "roarBack", fn := fun _ => fun
  | [d1, d2] => { results := [.lit (.bool true)], args := [d1, d2] }
  | _ => none }
def roarBackRow : OpenClaim := { program := "ytbfchlfagdhglaadoor", sum := "8a3bc9fd8bc123e78e702a4abd723c768bcb9e1248983c6fe95512bf72148d76", func := "tesserae/tesseraelaw07.RoarBack", spec := "roarBack", inPlace := ["internal/reflectlite.TypeOf"], unfollowed := true, recurses := true, named := ["tesserae/roar.errRoar", "tesserae/roar.errMore", "tesserae/roar.errVarint", "tesserae/varint.errMore", "tesserae/varint.errNone"], apart := false, laid := [("tesserae/varint.errMore", laid_tesserae_varint_errMore), ("tesserae/varint.errNone", laid_tesserae_varint_errNone), ("tesserae/roar.errMore", laid_tesserae_roar_errMore), ("tesserae/roar.errVarint", laid_tesserae_roar_errVarint), ("tesserae/roar.errRoar", laid_tesserae_roar_errRoar)] }
def RoarBackSaid : Prop := roarBackRow.holds Tryd.pinned (OpenSpec.ofChange roarBackSpec)

/-- ITS FALSE NEIGHBOUR: 'it returns false'. Refute it at one input. -/
def roarBackWrong : ChangeSpec := { name := "roarBack", fn := fun _ => fun
  | [d1, d2] => { results := [.lit (.bool false)], args := [d1, d2] }
  | _ => none }
def RoarBackWrongFalsely : Prop := roarBackRow.holds Tryd.pinned (OpenSpec.ofChange roarBackWrong)

/- THE SECOND FORM. 'bulk': how many values and letters a reading holds, each counted each time it is reached (what is shared counts as often as it is met; a slice's spare places count too). A statement '..UptoSaid' is the law's where the arguments, and the package variables that the reading takes, are together of bulk at most 1048576: NARROWER than '..Said'. Prove '..Said' where nothing that the law and all that it calls make is longer than what came in: it says more and counts as full. Else prove '..UptoSaid'. A law counts once. -/
mutual
def uptoBulk {H : Type} : DataW H → Nat
  | .lit (.string bytes) => bytes.length + 1
  | .lit _ => 1
  | .nil => 1
  | .ptr d => uptoBulk d + 1
  | .slice elems spare => uptoBulkAll elems + uptoBulkAll spare + 1
  | .agg parts => uptoBulkAll parts + 1
  | .iface _ d => uptoBulk d + 1
  | .map entries => uptoBulkEntries entries + 1
  | .held _ => 1
def uptoBulkAll {H : Type} : List (DataW H) → Nat
  | [] => 0
  | d :: r => uptoBulk d + uptoBulkAll r
def uptoBulkEntries {H : Type} : List (Lit × DataW H) → Nat
  | [] => 0
  | x :: r => uptoBulkEntry x + uptoBulkEntries r
def uptoBulkEntry {H : Type} : Lit × DataW H → Nat
  | (.string bytes, d) => bytes.length + uptoBulk d + 1
  | (_, d) => uptoBulk d + 1
 end
def uptoSmall : (H : Type) → List (DataW H) → Bool := fun _ ds => decide (uptoBulkAll ds ≤ 1048576)
def OpenSpec.upto (s : _root_.Go.ChangeSpec) : _root_.Go.OpenSpec := { _root_.Go.OpenSpec.ofChange s with cond := some uptoSmall }

/-- 'tesseraelaw07.RoarCodes', WHERE WHAT IT READS IS OF BULK AT MOST 1048576: true; the input reads as it did. -/
def roarCodesUptoRow : OpenClaim := { program := "ytbfchlfagdhglaadoor", sum := "8a3bc9fd8bc123e78e702a4abd723c768bcb9e1248983c6fe95512bf72148d76", func := "tesserae/tesseraelaw07.RoarCodes", spec := "roarCodes", inPlace := ["internal/reflectlite.TypeOf"], unfollowed := true, recurses := true, named := ["tesserae/roar.errRoar", "tesserae/roar.errMore", "tesserae/roar.errVarint", "tesserae/varint.errMore", "tesserae/varint.errNone"], apart := false, laid := [("tesserae/varint.errMore", laid_tesserae_varint_errMore), ("tesserae/varint.errNone", laid_tesserae_varint_errNone), ("tesserae/roar.errMore", laid_tesserae_roar_errMore), ("tesserae/roar.errVarint", laid_tesserae_roar_errVarint), ("tesserae/roar.errRoar", laid_tesserae_roar_errRoar)], narrowed := true }
def RoarCodesUptoSaid : Prop := roarCodesUptoRow.holds Tryd.pinned (OpenSpec.upto roarCodesSpec)

/-- 'tesseraelaw07.RoarBack', WHERE WHAT IT READS IS OF BULK AT MOST 1048576: true; the input reads as it did. -/
def roarBackUptoRow : OpenClaim := { program := "ytbfchlfagdhglaadoor", sum := "8a3bc9fd8bc123e78e702a4abd723c768bcb9e1248983c6fe95512bf72148d76", func := "tesserae/tesseraelaw07.RoarBack", spec := "roarBack", inPlace := ["internal/reflectlite.TypeOf"], unfollowed := true, recurses := true, named := ["tesserae/roar.errRoar", "tesserae/roar.errMore", "tesserae/roar.errVarint", "tesserae/varint.errMore", "tesserae/varint.errNone"], apart := false, laid := [("tesserae/varint.errMore", laid_tesserae_varint_errMore), ("tesserae/varint.errNone", laid_tesserae_varint_errNone), ("tesserae/roar.errMore", laid_tesserae_roar_errMore), ("tesserae/roar.errVarint", laid_tesserae_roar_errVarint), ("tesserae/roar.errRoar", laid_tesserae_roar_errRoar)], narrowed := true }
def RoarBackUptoSaid : Prop := roarBackUptoRow.holds Tryd.pinned (OpenSpec.upto roarBackSpec)

end Rows
end Go.Proofs.YtbfchlfagdhglaaDoor
