/-
  NARROWER THAN 'FOR EVERY INPUT', by the rows' own cells (each row's printed sentence says how): PackedMakes: laid · PackedSizes: laid · PackedBack: laid · PackedMore: laid · PackedWidths: laid · PackedPlaces: laid.
  DERIVED. THE GIVEN ROWS OF THIS SEAT. 6 by the template 'for every input the law returns true; each argument reads behind the call as it read before'; 0 by the template 'total and deterministic' (their statements: YtmimepjokkcbeaaDoorTotals.lean).
  GIVEN WITH THE SEED: the statements are not yours to turn. If you find one false, say at which input.
  Laid BY PROGRAM, IN A SANDBOX (cutbox-rows.mjs): the forced cells as the released guide's own fill.sh prints them over the translation 952577960372baeb… (all of the seat's roots in one cut). By AI agents, Wed Nov 11 2026. No macro, syntax, notation, axiom, sorry.
-/
import Derived.Test.YtmimepjokkcbeaaDoorChecked
import GoSem.Claim
import GoSem.ClaimJoined
import GoSem.ClaimMapViews
import Derived.JoinedTies
import Derived.KernelRfl
namespace Go.Proofs.YtmimepjokkcbeaaDoor
/- THE CELL 'sum', in the pinned program and in every row, IS THE sha256 OF THE DUMP (.gsa) THAT YtmimepjokkcbeaaDoorProg.lean LOADS. Nothing in Lean hashes anything: it is a label: what it is worth is what the hold of that sum in a sandbox is worth. -/
noncomputable def Tryd.pinned : Pinned := { name := "ytmimepjokkcbeaadoor", sum := "952577960372baeb415dd8f43786bfc41f4e8e67a3021e04ebe2bf2a4c54d4d4", checked := Tryd.checked }
namespace Rows
def none {H : Type} : Left H := { results := [], args := [] }

/- WHAT THE LISTED PACKAGE-LEVEL VARIABLES READ AS WHEN THE CALL BEGINS. Each datum BY PROGRAM (the guide's laid-datum.mjs) off the statement by which the dump's own 'gosem.cut.vars' lays the variable. In a bare row this is a premise. The card (YtmimepjokkcbeaaDoorCards.lean) ties it to the program's text. -/
def laid_tesserae_varint_errMore {H : Type} : DataW H := .iface "*errors.errorString" (.ptr (.agg [.lit (.string [116, 104, 101, 32, 98, 121, 116, 101, 115, 32, 101, 110, 100, 32, 119, 105, 116, 104, 105, 110, 32, 97, 32, 110, 117, 109, 98, 101, 114])]))
def laid_tesserae_varint_errNone {H : Type} : DataW H := .iface "*errors.errorString" (.ptr (.agg [.lit (.string [116, 104, 101, 32, 98, 121, 116, 101, 115, 32, 97, 114, 101, 32, 110, 111, 32, 110, 117, 109, 98, 101, 114, 39, 115, 44, 32, 111, 114, 32, 110, 111, 32, 108, 105, 115, 116, 39, 115])]))

/-- 'tesseraelaw04.PackedMakes': WHATEVER THE INPUT: true; the input reads as it did. -/
def packedMakesSpec : ChangeSpec := { name := "packedMakes", fn := fun _ => fun
  | [d1, d2, d3] => { results := [.lit (.bool true)], args := [d1, d2, d3] }
  | _ => none }
def packedMakesRow : OpenClaim := { program := "ytmimepjokkcbeaadoor", sum := "952577960372baeb415dd8f43786bfc41f4e8e67a3021e04ebe2bf2a4c54d4d4", func := "tesserae/tesseraelaw04.PackedMakes", spec := "packedMakes", inPlace := ["math/bits.Add64", "internal/reflectlite.TypeOf"], unfollowed := true, recurses := true, named := ["math/bits.divideError", "math/bits.overflowError", "tesserae/varint.errMore", "tesserae/varint.errNone"], apart := false, laid := [("tesserae/varint.errMore", laid_tesserae_varint_errMore), ("tesserae/varint.errNone", laid_tesserae_varint_errNone)] }
def PackedMakesSaid : Prop := packedMakesRow.holds Tryd.pinned (OpenSpec.ofChange packedMakesSpec)

/-- ITS FALSE NEIGHBOUR: 'it returns false'. Refute it at one input. -/
def packedMakesWrong : ChangeSpec := { name := "packedMakes", fn := fun _ => fun
  | [d1, d2, d3] => { results := [.lit (.bool false)], args := [d1, d2, d3] }
  | _ => none }
def PackedMakesWrongFalsely : Prop := packedMakesRow.holds Tryd.pinned (OpenSpec.ofChange packedMakesWrong)

/-- 'tesseraelaw04.PackedSizes': WHATEVER THE INPUT: true; the input reads as it did. -/
def packedSizesSpec : ChangeSpec := { name := "packedSizes", fn := fun _ => fun
  | [d1, d2] => { results := [.lit (.bool true)], args := [d1, d2] }
  | _ => none }
def packedSizesRow : OpenClaim := { program := "ytmimepjokkcbeaadoor", sum := "952577960372baeb415dd8f43786bfc41f4e8e67a3021e04ebe2bf2a4c54d4d4", func := "tesserae/tesseraelaw04.PackedSizes", spec := "packedSizes", inPlace := ["math/bits.Add64", "internal/reflectlite.TypeOf"], unfollowed := true, recurses := true, named := ["math/bits.divideError", "math/bits.overflowError", "tesserae/varint.errMore", "tesserae/varint.errNone"], apart := false, laid := [("tesserae/varint.errMore", laid_tesserae_varint_errMore), ("tesserae/varint.errNone", laid_tesserae_varint_errNone)] }
def PackedSizesSaid : Prop := packedSizesRow.holds Tryd.pinned (OpenSpec.ofChange packedSizesSpec)

/-- ITS FALSE NEIGHBOUR: 'it returns false'. Refute it at one input. -/
def packedSizesWrong : ChangeSpec := { name := "packedSizes", fn := fun _ => fun
  | [d1, d2] => { results := [.lit (.bool false)], args := [d1, d2] }
  | _ => none }
def PackedSizesWrongFalsely : Prop := packedSizesRow.holds Tryd.pinned (OpenSpec.ofChange packedSizesWrong)

/-- 'tesseraelaw04.PackedBack': WHATEVER THE INPUT: true; the input reads as it did. -/
def packedBackSpec : ChangeSpec := { name := "packedBack", fn := fun _ => fun
  | [d1, d2] => { results := [.lit (.bool true)], args := [d1, d2] }
  | _ => none }
def packedBackRow : OpenClaim := { program := "ytmimepjokkcbeaadoor", sum := "952577960372baeb415dd8f43786bfc41f4e8e67a3021e04ebe2bf2a4c54d4d4", func := "tesserae/tesseraelaw04.PackedBack", spec := "packedBack", inPlace := ["math/bits.Add64", "internal/reflectlite.TypeOf"], unfollowed := true, recurses := true, named := ["math/bits.divideError", "math/bits.overflowError", "tesserae/varint.errMore", "tesserae/varint.errNone"], apart := false, laid := [("tesserae/varint.errMore", laid_tesserae_varint_errMore), ("tesserae/varint.errNone", laid_tesserae_varint_errNone)] }
def PackedBackSaid : Prop := packedBackRow.holds Tryd.pinned (OpenSpec.ofChange packedBackSpec)

/-- ITS FALSE NEIGHBOUR: 'it returns false'. Refute it at one input. -/
def packedBackWrong : ChangeSpec := { name := "packedBack", fn := fun _ => fun
  | [d1, d2] => { results := [.lit (.bool false)], args := [d1, d2] }
  | _ => none }
def PackedBackWrongFalsely : Prop := packedBackRow.holds Tryd.pinned (OpenSpec.ofChange packedBackWrong)

/-- 'tesseraelaw04.PackedMore': WHATEVER THE INPUT: true; the input reads as it did. -/
def packedMoreSpec : ChangeSpec := { name := "packedMore", fn := fun _ => fun
  | [d1, d2] => { results := [.lit (.bool true)], args := [d1, d2] }
  | _ => none }
def packedMoreRow : OpenClaim := { program := "ytmimepjokkcbeaadoor", sum := "952577960372baeb415dd8f43786bfc41f4e8e67a3021e04ebe2bf2a4c54d4d4", func := "tesserae/tesseraelaw04.PackedMore", spec := "packedMore", inPlace := ["math/bits.Add64", "internal/reflectlite.TypeOf"], unfollowed := true, recurses := true, named := ["math/bits.divideError", "math/bits.overflowError", "tesserae/varint.errMore", "tesserae/varint.errNone"], apart := false, laid := [("tesserae/varint.errMore", laid_tesserae_varint_errMore), ("tesserae/varint.errNone", laid_tesserae_varint_errNone)] }
def PackedMoreSaid : Prop := packedMoreRow.holds Tryd.pinned (OpenSpec.ofChange packedMoreSpec)

/-- ITS FALSE NEIGHBOUR: 'it returns false'. Refute it at one input. -/
def packedMoreWrong : ChangeSpec := { name := "packedMore", fn := fun _ => fun
  | [d1, d2] => { results := [.lit (.bool false)], args := [d1, d2] }
  | _ => none }
def PackedMoreWrongFalsely : Prop := packedMoreRow.holds Tryd.pinned (OpenSpec.ofChange packedMoreWrong)

/-- 'tesseraelaw04.PackedWidths': WHATEVER THE INPUT: true; the input reads as it did. -/
def packedWidthsSpec : ChangeSpec := { name := "packedWidths", fn := fun _ => fun
  | [d] => { results := [.lit (.bool true)], args := [d] }
  | _ => none }
def packedWidthsRow : OpenClaim := { program := "ytmimepjokkcbeaadoor", sum := "952577960372baeb415dd8f43786bfc41f4e8e67a3021e04ebe2bf2a4c54d4d4", func := "tesserae/tesseraelaw04.PackedWidths", spec := "packedWidths", inPlace := ["math/bits.Add64", "internal/reflectlite.TypeOf"], unfollowed := true, recurses := true, named := ["math/bits.divideError", "math/bits.overflowError", "tesserae/varint.errMore", "tesserae/varint.errNone"], apart := false, laid := [("tesserae/varint.errMore", laid_tesserae_varint_errMore), ("tesserae/varint.errNone", laid_tesserae_varint_errNone)] }
def PackedWidthsSaid : Prop := packedWidthsRow.holds Tryd.pinned (OpenSpec.ofChange packedWidthsSpec)

/-- ITS FALSE NEIGHBOUR: 'it returns false'. Refute it at one input. -/
def packedWidthsWrong : ChangeSpec := { name := "packedWidths", fn := fun _ => fun
  | [d] => { results := [.lit (.bool false)], args := [d] }
  | _ => none }
def PackedWidthsWrongFalsely : Prop := packedWidthsRow.holds Tryd.pinned (OpenSpec.ofChange packedWidthsWrong)

/-- 'tesseraelaw04.PackedPlaces': WHATEVER THE INPUT: true; the input reads as it did. -/
def packedPlacesSpec : ChangeSpec := { name := "packedPlaces", fn := fun _ => fun
  | [d1, d2] => { results := [.lit (.bool true)], args := [d1, d2] }
  | _ => none }
def packedPlacesRow : OpenClaim := { program := "ytmimepjokkcbeaadoor", sum := "952577960372baeb415dd8f43786bfc41f4e8e67a3021e04ebe2bf2a4c54d4d4", func := "tesserae/tesseraelaw04.PackedPlaces", spec := "packedPlaces", inPlace := ["math/bits.Add64", "internal/reflectlite.TypeOf"], unfollowed := true, recurses := true, named := ["math/bits.divideError", "math/bits.overflowError", "tesserae/varint.errMore", "tesserae/varint.errNone"], apart := false, laid := [("tesserae/varint.errMore", laid_tesserae_varint_errMore), ("tesserae/varint.errNone", laid_tesserae_varint_errNone)] }
def PackedPlacesSaid : Prop := packedPlacesRow.holds Tryd.pinned (OpenSpec.ofChange packedPlacesSpec)

/-- ITS FALSE NEIGHBOUR: 'it returns false'. Refute it at one input. -/
def packedPlacesWrong : ChangeSpec := { name := "packedPlaces", fn := fun _ => fun
  | [d1, d2] => { results := [.lit (.bool false)], args := [d1, d2] }
  | _ => none }
def PackedPlacesWrongFalsely : Prop := packedPlacesRow.holds Tryd.pinned (OpenSpec.ofChange packedPlacesWrong)

/- THE SECOND FORM. 'bulk': how many values and letters a reading holds, each counted each time it is reached (what is shared counts as often as it is met; a slice's spare places count too). A statement '..UptoSaid' is the law's where the arguments, and the package variables that the reading takes, are together of bulk at most 1048576: NARROWER than '..Said'. Prove '..Said' where nothing that the law and all that it calls make is longer than what came in: it says more and counts as full. Else prove '..UptoSaid'. A law counts once. -/
mutual
def uptoBulk {H : Type} : DataW H → Nat
  | .lit (.string bytes) => bytes.length + 1
  | .lit _ => 1
  | .nil => 1
  | .ptr d => uptoBulk d + 1
  | .slice elems spare => uptoBulkAll elems + uptoBulkAll spare + 1
  | .agg parts => uptoBulkAll parts + 1
  | .iface _ d => uptoBulk d + 1
  | .map entries => uptoBulkEntries entries + 1
  | .held _ => 1
def uptoBulkAll {H : Type} : List (DataW H) → Nat
  | [] => 0
  | d :: r => uptoBulk d + uptoBulkAll r
def uptoBulkEntries {H : Type} : List (Lit × DataW H) → Nat
  | [] => 0
  | x :: r => uptoBulkEntry x + uptoBulkEntries r
def uptoBulkEntry {H : Type} : Lit × DataW H → Nat
  | (.string bytes, d) => bytes.length + uptoBulk d + 1
  | (_, d) => uptoBulk d + 1
 end
def uptoSmall : (H : Type) → List (DataW H) → Bool := fun _ ds => decide (uptoBulkAll ds ≤ 1048576)
def OpenSpec.upto (s : _root_.Go.ChangeSpec) : _root_.Go.OpenSpec := { _root_.Go.OpenSpec.ofChange s with cond := some uptoSmall }

/-- 'tesseraelaw04.PackedMakes', WHERE WHAT IT READS IS OF BULK AT MOST 1048576: true; the input reads as it did. -/
def packedMakesUptoRow : OpenClaim := { program := "ytmimepjokkcbeaadoor", sum := "952577960372baeb415dd8f43786bfc41f4e8e67a3021e04ebe2bf2a4c54d4d4", func := "tesserae/tesseraelaw04.PackedMakes", spec := "packedMakes", inPlace := ["math/bits.Add64", "internal/reflectlite.TypeOf"], unfollowed := true, recurses := true, named := ["math/bits.divideError", "math/bits.overflowError", "tesserae/varint.errMore", "tesserae/varint.errNone"], apart := false, laid := [("tesserae/varint.errMore", laid_tesserae_varint_errMore), ("tesserae/varint.errNone", laid_tesserae_varint_errNone)], narrowed := true }
def PackedMakesUptoSaid : Prop := packedMakesUptoRow.holds Tryd.pinned (OpenSpec.upto packedMakesSpec)

/-- 'tesseraelaw04.PackedSizes', WHERE WHAT IT READS IS OF BULK AT MOST 1048576: true; the input reads as it did. -/
def packedSizesUptoRow : OpenClaim := { program := "ytmimepjokkcbeaadoor", sum := "952577960372baeb415dd8f43786bfc41f4e8e67a3021e04ebe2bf2a4c54d4d4", func := "tesserae/tesseraelaw04.PackedSizes", spec := "packedSizes", inPlace := ["math/bits.Add64", "internal/reflectlite.TypeOf"], unfollowed := true, recurses := true, named := ["math/bits.divideError", "math/bits.overflowError", "tesserae/varint.errMore", "tesserae/varint.errNone"], apart := false, laid := [("tesserae/varint.errMore", laid_tesserae_varint_errMore), ("tesserae/varint.errNone", laid_tesserae_varint_errNone)], narrowed := true }
def PackedSizesUptoSaid : Prop := packedSizesUptoRow.holds Tryd.pinned (OpenSpec.upto packedSizesSpec)

/-- 'tesseraelaw04.PackedBack', WHERE WHAT IT READS IS OF BULK AT MOST 1048576: true; the input reads as it did. -/
def packedBackUptoRow : OpenClaim := { program := "ytmimepjokkcbeaadoor", sum := "952577960372baeb415dd8f43786bfc41f4e8e67a3021e04ebe2bf2a4c54d4d4", func := "tesserae/tesseraelaw04.PackedBack", spec := "packedBack", inPlace := ["math/bits.Add64", "internal/reflectlite.TypeOf"], unfollowed := true, recurses := true, named := ["math/bits.divideError", "math/bits.overflowError", "tesserae/varint.errMore", "tesserae/varint.errNone"], apart := false, laid := [("tesserae/varint.errMore", laid_tesserae_varint_errMore), ("tesserae/varint.errNone", laid_tesserae_varint_errNone)], narrowed := true }
def PackedBackUptoSaid : Prop := packedBackUptoRow.holds Tryd.pinned (OpenSpec.upto packedBackSpec)

/-- 'tesseraelaw04.PackedMore', WHERE WHAT IT READS IS OF BULK AT MOST 1048576: true; the input reads as it did. -/
def packedMoreUptoRow : OpenClaim := { program := "ytmimepjokkcbeaadoor", sum := "952577960372baeb415dd8f43786bfc41f4e8e67a3021e04ebe2bf2a4c54d4d4", func := "tesserae/tesseraelaw04.PackedMore", spec := "packedMore", inPlace := ["math/bits.Add64", "internal/reflectlite.TypeOf"], unfollowed := true, recurses := true, named := ["math/bits.divideError", "math/bits.overflowError", "tesserae/varint.errMore", "tesserae/varint.errNone"], apart := false, laid := [("tesserae/varint.errMore", laid_tesserae_varint_errMore), ("tesserae/varint.errNone", laid_tesserae_varint_errNone)], narrowed := true }
def PackedMoreUptoSaid : Prop := packedMoreUptoRow.holds Tryd.pinned (OpenSpec.upto packedMoreSpec)

/-- 'tesseraelaw04.PackedWidths', WHERE WHAT IT READS IS OF BULK AT MOST 1048576: true; the input reads as it did. -/
def packedWidthsUptoRow : OpenClaim := { program := "ytmimepjokkcbeaadoor", sum := "952577960372baeb415dd8f43786bfc41f4e8e67a3021e04ebe2bf2a4c54d4d4", func := "tesserae/tesseraelaw04.PackedWidths", spec := "packedWidths", inPlace := ["math/bits.Add64", "internal/reflectlite.TypeOf"], unfollowed := true, recurses := true, named := ["math/bits.divideError", "math/bits.overflowError", "tesserae/varint.errMore", "tesserae/varint.errNone"], apart := false, laid := [("tesserae/varint.errMore", laid_tesserae_varint_errMore), ("tesserae/varint.errNone", laid_tesserae_varint_errNone)], narrowed := true }
def PackedWidthsUptoSaid : Prop := packedWidthsUptoRow.holds Tryd.pinned (OpenSpec.upto packedWidthsSpec)

/-- 'tesseraelaw04.PackedPlaces', WHERE WHAT IT READS IS OF BULK AT MOST 1048576: true; the input reads as it did. -/
def packedPlacesUptoRow : OpenClaim := { program := "ytmimepjokkcbeaadoor", sum := "952577960372baeb415dd8f43786bfc41f4e8e67a3021e04ebe2bf2a4c54d4d4", func := "tesserae/tesseraelaw04.PackedPlaces", spec := "packedPlaces", inPlace := ["math/bits.Add64", "internal/reflectlite.TypeOf"], unfollowed := true, recurses := true, named := ["math/bits.divideError", "math/bits.overflowError", "tesserae/varint.errMore", "tesserae/varint.errNone"], apart := false, laid := [("tesserae/varint.errMore", laid_tesserae_varint_errMore), ("tesserae/varint.errNone", laid_tesserae_varint_errNone)], narrowed := true }
def PackedPlacesUptoSaid : Prop := packedPlacesUptoRow.holds Tryd.pinned (OpenSpec.upto packedPlacesSpec)

end Rows
end Go.Proofs.YtmimepjokkcbeaaDoor
