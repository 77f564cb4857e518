/-
  NARROWER THAN 'FOR EVERY INPUT', by the rows' own cells (each row's printed sentence says how): VarintPuts: laid · VarintBack: laid · VarintMore: laid · VarintLists: laid · VarintSizes: laid.
  DERIVED. THE GIVEN ROWS OF THIS SEAT. 5 by the template 'for every input the law returns true; each argument reads behind the call as it read before'; 0 by the template 'total and deterministic' (their statements: YtfdehmghnmjjoaaDoorTotals.lean).
  GIVEN WITH THE SEED: the statements are not yours to turn. If you find one false, say at which input.
  Laid BY PROGRAM, IN A SANDBOX (cutbox-rows.mjs): the forced cells as the released guide's own fill.sh prints them over the translation ab0483839cff5ca4… (all of the seat's roots in one cut). By AI agents, Wed Nov 11 2026. No macro, syntax, notation, axiom, sorry.
-/
import Derived.Test.YtfdehmghnmjjoaaDoorChecked
import GoSem.Claim
import GoSem.ClaimJoined
import GoSem.ClaimMapViews
import Derived.JoinedTies
import Derived.KernelRfl
namespace Go.Proofs.YtfdehmghnmjjoaaDoor
/- THE CELL 'sum', in the pinned program and in every row, IS THE sha256 OF THE DUMP (.gsa) THAT YtfdehmghnmjjoaaDoorProg.lean LOADS. Nothing in Lean hashes anything: it is a label: what it is worth is what the hold of that sum in a sandbox is worth. -/
noncomputable def Tryd.pinned : Pinned := { name := "ytfdehmghnmjjoaadoor", sum := "ab0483839cff5ca487301b31bd177903fa346359e8c7eea6d1952174c4872ed0", checked := Tryd.checked }
namespace Rows
def none {H : Type} : Left H := { results := [], args := [] }

/- WHAT THE LISTED PACKAGE-LEVEL VARIABLES READ AS WHEN THE CALL BEGINS. Each datum BY PROGRAM (the guide's laid-datum.mjs) off the statement by which the dump's own 'gosem.cut.vars' lays the variable. In a bare row this is a premise. The card (YtfdehmghnmjjoaaDoorCards.lean) ties it to the program's text. -/
def laid_tesserae_varint_errMore {H : Type} : DataW H := .iface "*errors.errorString" (.ptr (.agg [.lit (.string [116, 104, 101, 32, 98, 121, 116, 101, 115, 32, 101, 110, 100, 32, 119, 105, 116, 104, 105, 110, 32, 97, 32, 110, 117, 109, 98, 101, 114])]))
def laid_tesserae_varint_errNone {H : Type} : DataW H := .iface "*errors.errorString" (.ptr (.agg [.lit (.string [116, 104, 101, 32, 98, 121, 116, 101, 115, 32, 97, 114, 101, 32, 110, 111, 32, 110, 117, 109, 98, 101, 114, 39, 115, 44, 32, 111, 114, 32, 110, 111, 32, 108, 105, 115, 116, 39, 115])]))

/-- 'tesseraelaw02.VarintPuts': WHATEVER THE INPUT: true; the input reads as it did. -/
def varintPutsSpec : ChangeSpec := { name := "varintPuts", fn := fun _ => fun
  | [d1, d2, d3] => { results := [.lit (.bool true)], args := [d1, d2, d3] }
  | _ => none }
def varintPutsRow : OpenClaim := { program := "ytfdehmghnmjjoaadoor", sum := "ab0483839cff5ca487301b31bd177903fa346359e8c7eea6d1952174c4872ed0", func := "tesserae/tesseraelaw02.VarintPuts", spec := "varintPuts", inPlace := ["internal/reflectlite.TypeOf"], unfollowed := true, recurses := true, named := ["tesserae/varint.errMore", "tesserae/varint.errNone"], apart := false, laid := [("tesserae/varint.errMore", laid_tesserae_varint_errMore), ("tesserae/varint.errNone", laid_tesserae_varint_errNone)] }
def VarintPutsSaid : Prop := varintPutsRow.holds Tryd.pinned (OpenSpec.ofChange varintPutsSpec)

/-- ITS FALSE NEIGHBOUR: 'it returns false'. Refute it at one input. -/
def varintPutsWrong : ChangeSpec := { name := "varintPuts", fn := fun _ => fun
  | [d1, d2, d3] => { results := [.lit (.bool false)], args := [d1, d2, d3] }
  | _ => none }
def VarintPutsWrongFalsely : Prop := varintPutsRow.holds Tryd.pinned (OpenSpec.ofChange varintPutsWrong)

/-- 'tesseraelaw02.VarintBack': WHATEVER THE INPUT: true; the input reads as it did. -/
def varintBackSpec : ChangeSpec := { name := "varintBack", fn := fun _ => fun
  | [d1, d2, d3] => { results := [.lit (.bool true)], args := [d1, d2, d3] }
  | _ => none }
def varintBackRow : OpenClaim := { program := "ytfdehmghnmjjoaadoor", sum := "ab0483839cff5ca487301b31bd177903fa346359e8c7eea6d1952174c4872ed0", func := "tesserae/tesseraelaw02.VarintBack", spec := "varintBack", inPlace := ["internal/reflectlite.TypeOf"], unfollowed := true, recurses := true, named := ["tesserae/varint.errMore", "tesserae/varint.errNone"], apart := false, laid := [("tesserae/varint.errMore", laid_tesserae_varint_errMore), ("tesserae/varint.errNone", laid_tesserae_varint_errNone)] }
def VarintBackSaid : Prop := varintBackRow.holds Tryd.pinned (OpenSpec.ofChange varintBackSpec)

/-- ITS FALSE NEIGHBOUR: 'it returns false'. Refute it at one input. -/
def varintBackWrong : ChangeSpec := { name := "varintBack", fn := fun _ => fun
  | [d1, d2, d3] => { results := [.lit (.bool false)], args := [d1, d2, d3] }
  | _ => none }
def VarintBackWrongFalsely : Prop := varintBackRow.holds Tryd.pinned (OpenSpec.ofChange varintBackWrong)

/-- 'tesseraelaw02.VarintMore': WHATEVER THE INPUT: true; the input reads as it did. -/
def varintMoreSpec : ChangeSpec := { name := "varintMore", fn := fun _ => fun
  | [d1, d2, d3] => { results := [.lit (.bool true)], args := [d1, d2, d3] }
  | _ => none }
def varintMoreRow : OpenClaim := { program := "ytfdehmghnmjjoaadoor", sum := "ab0483839cff5ca487301b31bd177903fa346359e8c7eea6d1952174c4872ed0", func := "tesserae/tesseraelaw02.VarintMore", spec := "varintMore", inPlace := ["internal/reflectlite.TypeOf"], unfollowed := true, recurses := true, named := ["tesserae/varint.errMore", "tesserae/varint.errNone"], apart := false, laid := [("tesserae/varint.errMore", laid_tesserae_varint_errMore), ("tesserae/varint.errNone", laid_tesserae_varint_errNone)] }
def VarintMoreSaid : Prop := varintMoreRow.holds Tryd.pinned (OpenSpec.ofChange varintMoreSpec)

/-- ITS FALSE NEIGHBOUR: 'it returns false'. Refute it at one input. -/
def varintMoreWrong : ChangeSpec := { name := "varintMore", fn := fun _ => fun
  | [d1, d2, d3] => { results := [.lit (.bool false)], args := [d1, d2, d3] }
  | _ => none }
def VarintMoreWrongFalsely : Prop := varintMoreRow.holds Tryd.pinned (OpenSpec.ofChange varintMoreWrong)

/-- 'tesseraelaw02.VarintLists': WHATEVER THE INPUT: true; the input reads as it did. -/
def varintListsSpec : ChangeSpec := { name := "varintLists", fn := fun _ => fun
  | [d1, d2] => { results := [.lit (.bool true)], args := [d1, d2] }
  | _ => none }
def varintListsRow : OpenClaim := { program := "ytfdehmghnmjjoaadoor", sum := "ab0483839cff5ca487301b31bd177903fa346359e8c7eea6d1952174c4872ed0", func := "tesserae/tesseraelaw02.VarintLists", spec := "varintLists", inPlace := ["internal/reflectlite.TypeOf"], unfollowed := true, recurses := true, named := ["tesserae/varint.errMore", "tesserae/varint.errNone"], apart := false, laid := [("tesserae/varint.errMore", laid_tesserae_varint_errMore), ("tesserae/varint.errNone", laid_tesserae_varint_errNone)] }
def VarintListsSaid : Prop := varintListsRow.holds Tryd.pinned (OpenSpec.ofChange varintListsSpec)

/-- ITS FALSE NEIGHBOUR: 'it returns false'. Refute it at one input. -/
def varintListsWrong : ChangeSpec := { name := "varintLists", fn := fun _ => fun
  | [d1, d2] => { results := [.lit (.bool false)], args := [d1, d2] }
  | _ => none }
def VarintListsWrongFalsely : Prop := varintListsRow.holds Tryd.pinned (OpenSpec.ofChange varintListsWrong)

/-- 'tesseraelaw02.VarintSizes': WHATEVER THE INPUT: true; the input reads as it did. -/
def varintSizesSpec : ChangeSpec := { name := "varintSizes", fn := fun _ => fun
  | [d1, d2] => { results := [.lit (.bool true)], args := [d1, d2] }
  | _ => none }
def varintSizesRow : OpenClaim := { program := "ytfdehmghnmjjoaadoor", sum := "ab0483839cff5ca487301b31bd177903fa346359e8c7eea6d1952174c4872ed0", func := "tesserae/tesseraelaw02.VarintSizes", spec := "varintSizes", inPlace := ["internal/reflectlite.TypeOf"], unfollowed := true, recurses := true, named := ["tesserae/varint.errMore", "tesserae/varint.errNone"], apart := false, laid := [("tesserae/varint.errMore", laid_tesserae_varint_errMore), ("tesserae/varint.errNone", laid_tesserae_varint_errNone)] }
def VarintSizesSaid : Prop := varintSizesRow.holds Tryd.pinned (OpenSpec.ofChange varintSizesSpec)

/-- ITS FALSE NEIGHBOUR: 'it returns false'. Refute it at one input. -/
def varintSizesWrong : ChangeSpec := { name := "varintSizes", fn := fun _ => fun
  | [d1, d2] => { results := [.lit (.bool false)], args := [d1, d2] }
  | _ => none }
def VarintSizesWrongFalsely : Prop := varintSizesRow.holds Tryd.pinned (OpenSpec.ofChange varintSizesWrong)

/- THE SECOND FORM. 'bulk': how many values and letters a reading holds, each counted each time it is reached (what is shared counts as often as it is met; a slice's spare places count too). A statement '..UptoSaid' is the law's where the arguments, and the package variables that the reading takes, are together of bulk at most 1048576: NARROWER than '..Said'. Prove '..Said' where nothing that the law and all that it calls make is longer than what came in: it says more and counts as full. Else prove '..UptoSaid'. A law counts once. -/
mutual
def uptoBulk {H : Type} : DataW H → Nat
  | .lit (.string bytes) => bytes.length + 1
  | .lit _ => 1
  | .nil => 1
  | .ptr d => uptoBulk d + 1
  | .slice elems spare => uptoBulkAll elems + uptoBulkAll spare + 1
  | .agg parts => uptoBulkAll parts + 1
  | .iface _ d => uptoBulk d + 1
  | .map entries => uptoBulkEntries entries + 1
  | .held _ => 1
def uptoBulkAll {H : Type} : List (DataW H) → Nat
  | [] => 0
  | d :: r => uptoBulk d + uptoBulkAll r
def uptoBulkEntries {H : Type} : List (Lit × DataW H) → Nat
  | [] => 0
  | x :: r => uptoBulkEntry x + uptoBulkEntries r
def uptoBulkEntry {H : Type} : Lit × DataW H → Nat
  | (.string bytes, d) => bytes.length + uptoBulk d + 1
  | (_, d) => uptoBulk d + 1
 end
def uptoSmall : (H : Type) → List (DataW H) → Bool := fun _ ds => decide (uptoBulkAll ds ≤ 1048576)
def OpenSpec.upto (s : _root_.Go.ChangeSpec) : _root_.Go.OpenSpec := { _root_.Go.OpenSpec.ofChange s with cond := some uptoSmall }

/-- 'tesseraelaw02.VarintPuts', WHERE WHAT IT READS IS OF BULK AT MOST 1048576: true; the input reads as it did. -/
def varintPutsUptoRow : OpenClaim := { program := "ytfdehmghnmjjoaadoor", sum := "ab0483839cff5ca487301b31bd177903fa346359e8c7eea6d1952174c4872ed0", func := "tesserae/tesseraelaw02.VarintPuts", spec := "varintPuts", inPlace := ["internal/reflectlite.TypeOf"], unfollowed := true, recurses := true, named := ["tesserae/varint.errMore", "tesserae/varint.errNone"], apart := false, laid := [("tesserae/varint.errMore", laid_tesserae_varint_errMore), ("tesserae/varint.errNone", laid_tesserae_varint_errNone)], narrowed := true }
def VarintPutsUptoSaid : Prop := varintPutsUptoRow.holds Tryd.pinned (OpenSpec.upto varintPutsSpec)

/-- 'tesseraelaw02.VarintBack', WHERE WHAT IT READS IS OF BULK AT MOST 1048576: true; the input reads as it did. -/
def varintBackUptoRow : OpenClaim := { program := "ytfdehmghnmjjoaadoor", sum := "ab0483839cff5ca487301b31bd177903fa346359e8c7eea6d1952174c4872ed0", func := "tesserae/tesseraelaw02.VarintBack", spec := "varintBack", inPlace := ["internal/reflectlite.TypeOf"], unfollowed := true, recurses := true, named := ["tesserae/varint.errMore", "tesserae/varint.errNone"], apart := false, laid := [("tesserae/varint.errMore", laid_tesserae_varint_errMore), ("tesserae/varint.errNone", laid_tesserae_varint_errNone)], narrowed := true }
def VarintBackUptoSaid : Prop := varintBackUptoRow.holds Tryd.pinned (OpenSpec.upto varintBackSpec)

/-- 'tesseraelaw02.VarintMore', WHERE WHAT IT READS IS OF BULK AT MOST 1048576: true; the input reads as it did. -/
def varintMoreUptoRow : OpenClaim := { program := "ytfdehmghnmjjoaadoor", sum := "ab0483839cff5ca487301b31bd177903fa346359e8c7eea6d1952174c4872ed0", func := "tesserae/tesseraelaw02.VarintMore", spec := "varintMore", inPlace := ["internal/reflectlite.TypeOf"], unfollowed := true, recurses := true, named := ["tesserae/varint.errMore", "tesserae/varint.errNone"], apart := false, laid := [("tesserae/varint.errMore", laid_tesserae_varint_errMore), ("tesserae/varint.errNone", laid_tesserae_varint_errNone)], narrowed := true }
def VarintMoreUptoSaid : Prop := varintMoreUptoRow.holds Tryd.pinned (OpenSpec.upto varintMoreSpec)

/-- 'tesseraelaw02.VarintLists', WHERE WHAT IT READS IS OF BULK AT MOST 1048576: true; the input reads as it did. -/
def varintListsUptoRow : OpenClaim := { program := "ytfdehmghnmjjoaadoor", sum := "ab0483839cff5ca487301b31bd177903fa346359e8c7eea6d1952174c4872ed0", func := "tesserae/tesseraelaw02.VarintLists", spec := "varintLists", inPlace := ["internal/reflectlite.TypeOf"], unfollowed := true, recurses := true, named := ["tesserae/varint.errMore", "tesserae/varint.errNone"], apart := false, laid := [("tesserae/varint.errMore", laid_tesserae_varint_errMore), ("tesserae/varint.errNone", laid_tesserae_varint_errNone)], narrowed := true }
def VarintListsUptoSaid : Prop := varintListsUptoRow.holds Tryd.pinned (OpenSpec.upto varintListsSpec)

/-- 'tesseraelaw02.VarintSizes', WHERE WHAT IT READS IS OF BULK AT MOST 1048576: true; the input reads as it did. -/
def varintSizesUptoRow : OpenClaim := { program := "ytfdehmghnmjjoaadoor", sum := "ab0483839cff5ca487301b31bd177903fa346359e8c7eea6d1952174c4872ed0", func := "tesserae/tesseraelaw02.VarintSizes", spec := "varintSizes", inPlace := ["internal/reflectlite.TypeOf"], unfollowed := true, recurses := true, named := ["tesserae/varint.errMore", "tesserae/varint.errNone"], apart := false, laid := [("tesserae/varint.errMore", laid_tesserae_varint_errMore), ("tesserae/varint.errNone", laid_tesserae_varint_errNone)], narrowed := true }
def VarintSizesUptoSaid : Prop := varintSizesUptoRow.holds Tryd.pinned (OpenSpec.upto varintSizesSpec)

end Rows
end Go.Proofs.YtfdehmghnmjjoaaDoor
