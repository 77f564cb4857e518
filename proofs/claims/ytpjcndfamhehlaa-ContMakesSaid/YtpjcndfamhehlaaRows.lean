/-
  No cell of these rows narrows 'for every input' (looked for: loops, veiled, ifaces, maps, wideKeys, modest, calm, conditions, laid).
  DERIVED. THE GIVEN ROWS OF THIS SEAT. 8 by the template 'for every input the law returns true; each argument reads behind the call as it read before'; 0 by the template 'total and deterministic' (their statements: YtpjcndfamhehlaaTotals.lean).
  GIVEN WITH THE SEED: the statements are not yours to turn. If you find one false, say at which input.
  Laid BY PROGRAM, IN A SANDBOX (cutbox-rows.mjs): the forced cells as the released guide's own fill.sh prints them over the translation dd720f5e03ad5318… (all of the seat's roots in one cut). By AI agents, Wed Nov 11 2026. No macro, syntax, notation, axiom, sorry.
-/
import Derived.Test.YtpjcndfamhehlaaChecked
import GoSem.Claim
import GoSem.ClaimJoined
import GoSem.ClaimMapViews
import Derived.JoinedTies
import Derived.KernelRfl
namespace Go.Proofs.Ytpjcndfamhehlaa
/- THE CELL 'sum', in the pinned program and in every row, IS THE sha256 OF THE DUMP (.gsa) THAT YtpjcndfamhehlaaProg.lean LOADS. Nothing in Lean hashes anything: it is a label: what it is worth is what the hold of that sum in a sandbox is worth. -/
noncomputable def Try.pinned : Pinned := { name := "ytpjcndfamhehlaa", sum := "dd720f5e03ad531803817584b32bf0f143cd31271bbcf66a4c8a398f42b0898f", checked := Try.checked }
namespace Rows
def none {H : Type} : Left H := { results := [], args := [] }

/-- 'tesseraelaw06.ContMakes': WHATEVER THE INPUT: true; the input reads as it did. -/
def contMakesSpec : ChangeSpec := { name := "contMakes", fn := fun _ => fun
  | [d1, d2, d3, d4] => { results := [.lit (.bool true)], args := [d1, d2, d3, d4] }
  | _ => none }
def contMakesRow : OpenClaim := { program := "ytpjcndfamhehlaa", sum := "dd720f5e03ad531803817584b32bf0f143cd31271bbcf66a4c8a398f42b0898f", func := "tesserae/tesseraelaw06.ContMakes", spec := "contMakes", unfollowed := true, recurses := true, apart := false }
def ContMakesSaid : Prop := contMakesRow.holds Try.pinned (OpenSpec.ofChange contMakesSpec)

/-- ITS FALSE NEIGHBOUR: 'it returns false'. Refute it at one input. -/
def contMakesWrong : ChangeSpec := { name := "contMakes", fn := fun _ => fun
  | [d1, d2, d3, d4] => { results := [.lit (.bool false)], args := [d1, d2, d3, d4] }
  | _ => none }
def ContMakesWrongFalsely : Prop := contMakesRow.holds Try.pinned (OpenSpec.ofChange contMakesWrong)

/-- 'tesseraelaw06.ContOps': WHATEVER THE INPUT: true; the input reads as it did. -/
def contOpsSpec : ChangeSpec := { name := "contOps", fn := fun _ => fun
  | [d1, d2, d3, d4, d5] => { results := [.lit (.bool true)], args := [d1, d2, d3, d4, d5] }
  | _ => none }
def contOpsRow : OpenClaim := { program := "ytpjcndfamhehlaa", sum := "dd720f5e03ad531803817584b32bf0f143cd31271bbcf66a4c8a398f42b0898f", func := "tesserae/tesseraelaw06.ContOps", spec := "contOps", unfollowed := true, recurses := true, apart := false }
def ContOpsSaid : Prop := contOpsRow.holds Try.pinned (OpenSpec.ofChange contOpsSpec)

/-- ITS FALSE NEIGHBOUR: 'it returns false'. Refute it at one input. -/
def contOpsWrong : ChangeSpec := { name := "contOps", fn := fun _ => fun
  | [d1, d2, d3, d4, d5] => { results := [.lit (.bool false)], args := [d1, d2, d3, d4, d5] }
  | _ => none }
def ContOpsWrongFalsely : Prop := contOpsRow.holds Try.pinned (OpenSpec.ofChange contOpsWrong)

/-- 'tesseraelaw06.ContBack': WHATEVER THE INPUT: true; the input reads as it did. -/
def contBackSpec : ChangeSpec := { name := "contBack", fn := fun _ => fun
  | [d1, d2, d3] => { results := [.lit (.bool true)], args := [d1, d2, d3] }
  | _ => none }
def contBackRow : OpenClaim := { program := "ytpjcndfamhehlaa", sum := "dd720f5e03ad531803817584b32bf0f143cd31271bbcf66a4c8a398f42b0898f", func := "tesserae/tesseraelaw06.ContBack", spec := "contBack", unfollowed := true, recurses := true, apart := false }
def ContBackSaid : Prop := contBackRow.holds Try.pinned (OpenSpec.ofChange contBackSpec)

/-- ITS FALSE NEIGHBOUR: 'it returns false'. Refute it at one input. -/
def contBackWrong : ChangeSpec := { name := "contBack", fn := fun _ => fun
  | [d1, d2, d3] => { results := [.lit (.bool false)], args := [d1, d2, d3] }
  | _ => none }
def ContBackWrongFalsely : Prop := contBackRow.holds Try.pinned (OpenSpec.ofChange contBackWrong)

/-- 'tesseraelaw06.ContFlips': WHATEVER THE INPUT: true; the input reads as it did. -/
def contFlipsSpec : ChangeSpec := { name := "contFlips", fn := fun _ => fun
  | [d1, d2, d3] => { results := [.lit (.bool true)], args := [d1, d2, d3] }
  | _ => none }
def contFlipsRow : OpenClaim := { program := "ytpjcndfamhehlaa", sum := "dd720f5e03ad531803817584b32bf0f143cd31271bbcf66a4c8a398f42b0898f", func := "tesserae/tesseraelaw06.ContFlips", spec := "contFlips", unfollowed := true, recurses := true, apart := false }
def ContFlipsSaid : Prop := contFlipsRow.holds Try.pinned (OpenSpec.ofChange contFlipsSpec)

/-- ITS FALSE NEIGHBOUR: 'it returns false'. Refute it at one input. -/
def contFlipsWrong : ChangeSpec := { name := "contFlips", fn := fun _ => fun
  | [d1, d2, d3] => { results := [.lit (.bool false)], args := [d1, d2, d3] }
  | _ => none }
def ContFlipsWrongFalsely : Prop := contFlipsRow.holds Try.pinned (OpenSpec.ofChange contFlipsWrong)

/-- 'tesseraelaw06.ContParts': WHATEVER THE INPUT: true; the input reads as it did. -/
def contPartsSpec : ChangeSpec := { name := "contParts", fn := fun _ => fun
  | [d1, d2] => { results := [.lit (.bool true)], args := [d1, d2] }
  | _ => none }
def contPartsRow : OpenClaim := { program := "ytpjcndfamhehlaa", sum := "dd720f5e03ad531803817584b32bf0f143cd31271bbcf66a4c8a398f42b0898f", func := "tesserae/tesseraelaw06.ContParts", spec := "contParts", unfollowed := true, recurses := true, apart := false }
def ContPartsSaid : Prop := contPartsRow.holds Try.pinned (OpenSpec.ofChange contPartsSpec)

/-- ITS FALSE NEIGHBOUR: 'it returns false'. Refute it at one input. -/
def contPartsWrong : ChangeSpec := { name := "contParts", fn := fun _ => fun
  | [d1, d2] => { results := [.lit (.bool false)], args := [d1, d2] }
  | _ => none }
def ContPartsWrongFalsely : Prop := contPartsRow.holds Try.pinned (OpenSpec.ofChange contPartsWrong)

/-- 'tesseraelaw06.ContPlaces': WHATEVER THE INPUT: true; the input reads as it did. -/
def contPlacesSpec : ChangeSpec := { name := "contPlaces", fn := fun _ => fun
  | [d1, d2] => { results := [.lit (.bool true)], args := [d1, d2] }
  | _ => none }
def contPlacesRow : OpenClaim := { program := "ytpjcndfamhehlaa", sum := "dd720f5e03ad531803817584b32bf0f143cd31271bbcf66a4c8a398f42b0898f", func := "tesserae/tesseraelaw06.ContPlaces", spec := "contPlaces", unfollowed := true, recurses := true, apart := false }
def ContPlacesSaid : Prop := contPlacesRow.holds Try.pinned (OpenSpec.ofChange contPlacesSpec)

/-- ITS FALSE NEIGHBOUR: 'it returns false'. Refute it at one input. -/
def contPlacesWrong : ChangeSpec := { name := "contPlaces", fn := fun _ => fun
  | [d1, d2] => { results := [.lit (.bool false)], args := [d1, d2] }
  | _ => none }
def ContPlacesWrongFalsely : Prop := contPlacesRow.holds Try.pinned (OpenSpec.ofChange contPlacesWrong)

/-- 'tesseraelaw06.ContRanks': WHATEVER THE INPUT: true; the input reads as it did. -/
def contRanksSpec : ChangeSpec := { name := "contRanks", fn := fun _ => fun
  | [d] => { results := [.lit (.bool true)], args := [d] }
  | _ => none }
def contRanksRow : OpenClaim := { program := "ytpjcndfamhehlaa", sum := "dd720f5e03ad531803817584b32bf0f143cd31271bbcf66a4c8a398f42b0898f", func := "tesserae/tesseraelaw06.ContRanks", spec := "contRanks", unfollowed := true, recurses := true, apart := false }
def ContRanksSaid : Prop := contRanksRow.holds Try.pinned (OpenSpec.ofChange contRanksSpec)

/-- ITS FALSE NEIGHBOUR: 'it returns false'. Refute it at one input. -/
def contRanksWrong : ChangeSpec := { name := "contRanks", fn := fun _ => fun
  | [d] => { results := [.lit (.bool false)], args := [d] }
  | _ => none }
def ContRanksWrongFalsely : Prop := contRanksRow.holds Try.pinned (OpenSpec.ofChange contRanksWrong)

/-- 'tesseraelaw06.ContSizes': WHATEVER THE INPUT: true; the input reads as it did. -/
def contSizesSpec : ChangeSpec := { name := "contSizes", fn := fun _ => fun
  | [d] => { results := [.lit (.bool true)], args := [d] }
  | _ => none }
def contSizesRow : OpenClaim := { program := "ytpjcndfamhehlaa", sum := "dd720f5e03ad531803817584b32bf0f143cd31271bbcf66a4c8a398f42b0898f", func := "tesserae/tesseraelaw06.ContSizes", spec := "contSizes", unfollowed := true, recurses := true, apart := false }
def ContSizesSaid : Prop := contSizesRow.holds Try.pinned (OpenSpec.ofChange contSizesSpec)

/-- ITS FALSE NEIGHBOUR: 'it returns false'. Refute it at one input. -/
def contSizesWrong : ChangeSpec := { name := "contSizes", fn := fun _ => fun
  | [d] => { results := [.lit (.bool false)], args := [d] }
  | _ => none }
def ContSizesWrongFalsely : Prop := contSizesRow.holds Try.pinned (OpenSpec.ofChange contSizesWrong)

/- THE SECOND FORM. 'bulk': how many values and letters a reading holds, each counted each time it is reached (what is shared counts as often as it is met; a slice's spare places count too). A statement '..UptoSaid' is the law's where the arguments, and the package variables that the reading takes, are together of bulk at most 1048576: NARROWER than '..Said'. Prove '..Said' where nothing that the law and all that it calls make is longer than what came in: it says more and counts as full. Else prove '..UptoSaid'. A law counts once. -/
mutual
def uptoBulk {H : Type} : DataW H → Nat
  | .lit (.string bytes) => bytes.length + 1
  | .lit _ => 1
  | .nil => 1
  | .ptr d => uptoBulk d + 1
  | .slice elems spare => uptoBulkAll elems + uptoBulkAll spare + 1
  | .agg parts => uptoBulkAll parts + 1
  | .iface _ d => uptoBulk d + 1
  | .map entries => uptoBulkEntries entries + 1
  | .held _ => 1
def uptoBulkAll {H : Type} : List (DataW H) → Nat
  | [] => 0
  | d :: r => uptoBulk d + uptoBulkAll r
def uptoBulkEntries {H : Type} : List (Lit × DataW H) → Nat
  | [] => 0
  | x :: r => uptoBulkEntry x + uptoBulkEntries r
def uptoBulkEntry {H : Type} : Lit × DataW H → Nat
  | (.string bytes, d) => bytes.length + uptoBulk d + 1
  | (_, d) => uptoBulk d + 1
 end
def uptoSmall : (H : Type) → List (DataW H) → Bool := fun _ ds => decide (uptoBulkAll ds ≤ 1048576)
def OpenSpec.upto (s : _root_.Go.ChangeSpec) : _root_.Go.OpenSpec := { _root_.Go.OpenSpec.ofChange s with cond := some uptoSmall }

/-- 'tesseraelaw06.ContMakes', WHERE WHAT IT READS IS OF BULK AT MOST 1048576: true; the input reads as it did. -/
def contMakesUptoRow : OpenClaim := { program := "ytpjcndfamhehlaa", sum := "dd720f5e03ad531803817584b32bf0f143cd31271bbcf66a4c8a398f42b0898f", func := "tesserae/tesseraelaw06.ContMakes", spec := "contMakes", unfollowed := true, recurses := true, apart := false, narrowed := true }
def ContMakesUptoSaid : Prop := contMakesUptoRow.holds Try.pinned (OpenSpec.upto contMakesSpec)

/-- 'tesseraelaw06.ContOps', WHERE WHAT IT READS IS OF BULK AT MOST 1048576: true; the input reads as it did. -/
def contOpsUptoRow : OpenClaim := { program := "ytpjcndfamhehlaa", sum := "dd720f5e03ad531803817584b32bf0f143cd31271bbcf66a4c8a398f42b0898f", func := "tesserae/tesseraelaw06.ContOps", spec := "contOps", unfollowed := true, recurses := true, apart := false, narrowed := true }
def ContOpsUptoSaid : Prop := contOpsUptoRow.holds Try.pinned (OpenSpec.upto contOpsSpec)

/-- 'tesseraelaw06.ContBack', WHERE WHAT IT READS IS OF BULK AT MOST 1048576: true; the input reads as it did. -/
def contBackUptoRow : OpenClaim := { program := "ytpjcndfamhehlaa", sum := "dd720f5e03ad531803817584b32bf0f143cd31271bbcf66a4c8a398f42b0898f", func := "tesserae/tesseraelaw06.ContBack", spec := "contBack", unfollowed := true, recurses := true, apart := false, narrowed := true }
def ContBackUptoSaid : Prop := contBackUptoRow.holds Try.pinned (OpenSpec.upto contBackSpec)

/-- 'tesseraelaw06.ContFlips', WHERE WHAT IT READS IS OF BULK AT MOST 1048576: true; the input reads as it did. -/
def contFlipsUptoRow : OpenClaim := { program := "ytpjcndfamhehlaa", sum := "dd720f5e03ad531803817584b32bf0f143cd31271bbcf66a4c8a398f42b0898f", func := "tesserae/tesseraelaw06.ContFlips", spec := "contFlips", unfollowed := true, recurses := true, apart := false, narrowed := true }
def ContFlipsUptoSaid : Prop := contFlipsUptoRow.holds Try.pinned (OpenSpec.upto contFlipsSpec)

/-- 'tesseraelaw06.ContParts', WHERE WHAT IT READS IS OF BULK AT MOST 1048576: true; the input reads as it did. -/
def contPartsUptoRow : OpenClaim := { program := "ytpjcndfamhehlaa", sum := "dd720f5e03ad531803817584b32bf0f143cd31271bbcf66a4c8a398f42b0898f", func := "tesserae/tesseraelaw06.ContParts", spec := "contParts", unfollowed := true, recurses := true, apart := false, narrowed := true }
def ContPartsUptoSaid : Prop := contPartsUptoRow.holds Try.pinned (OpenSpec.upto contPartsSpec)

/-- 'tesseraelaw06.ContPlaces', WHERE WHAT IT READS IS OF BULK AT MOST 1048576: true; the input reads as it did. -/
def contPlacesUptoRow : OpenClaim := { program := "ytpjcndfamhehlaa", sum := "dd720f5e03ad531803817584b32bf0f143cd31271bbcf66a4c8a398f42b0898f", func := "tesserae/tesseraelaw06.ContPlaces", spec := "contPlaces", unfollowed := true, recurses := true, apart := false, narrowed := true }
def ContPlacesUptoSaid : Prop := contPlacesUptoRow.holds Try.pinned (OpenSpec.upto contPlacesSpec)

/-- 'tesseraelaw06.ContRanks', WHERE WHAT IT READS IS OF BULK AT MOST 1048576: true; the input reads as it did. -/
def contRanksUptoRow : OpenClaim := { program := "ytpjcndfamhehlaa", sum := "dd720f5e03ad531803817584b32bf0f143cd31271bbcf66a4c8a398f42b0898f", func := "tesserae/tesseraelaw06.ContRanks", spec := "contRanks", unfollowed := true, recurses := true, apart := false, narrowed := true }
def ContRanksUptoSaid : Prop := contRanksUptoRow.holds Try.pinned (OpenSpec.upto contRanksSpec)

/-- 'tesseraelaw06.ContSizes', WHERE WHAT IT READS IS OF BULK AT MOST 1048576: true; the input reads as it did. -/
def contSizesUptoRow : OpenClaim := { program := "ytpjcndfamhehlaa", sum := "dd720f5e03ad531803817584b32bf0f143cd31271bbcf66a4c8a398f42b0898f", func := "tesserae/tesseraelaw06.ContSizes", spec := "contSizes", unfollowed := true, recurses := true, apart := false, narrowed := true }
def ContSizesUptoSaid : Prop := contSizesUptoRow.holds Try.pinned (OpenSpec.upto contSizesSpec)

end Rows
end Go.Proofs.Ytpjcndfamhehlaa
