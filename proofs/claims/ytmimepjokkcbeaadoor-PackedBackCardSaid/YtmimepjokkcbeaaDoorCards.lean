/-
  DERIVED. GIVEN WITH THE SEED: THE CARDS: each row of YtmimepjokkcbeaaDoorRows.lean that lists a variable, with what it lists TIED to the program's text (the seventh form; the later family's looks); each row that meets fmt, with fmt's text TOLD by the authors' own Lean function (tested against real Go, not proved from fmt's source: count such statements apart). THE CARD IS WHAT COUNTS. Prove the row's statement (the work); the ties are given (YtmimepjokkcbeaaDoorTie.lean); close each card by the builder's one call (the guide's Derived/Test/ToyasCard.lean, 'card_holds'). Laid BY PROGRAM, IN A SANDBOX (cutbox-door.mjs). By AI agents, Wed Nov 11 2026. No macro, syntax, notation, axiom, sorry.
-/
import Derived.Test.YtmimepjokkcbeaaDoorRows
import GoSem.ClaimSeven
namespace Go.Proofs.YtmimepjokkcbeaaDoor
namespace Rows

/-- THE TIED CARD OF 'tesseraelaw04.PackedMakes'. -/
def packedMakesCard : Claim7 := { stood := { row := packedMakesRow, standIns := [], harness := (true, "91e2cc83db63c9f386282b119ab7b7c25bf4643df6468e9704f89ec4b443a9a8"), looks := true }, kinds := [], alts := [], laidByText := true, laidKinds := [.sentinel, .sentinel], laidTests := true, laidLooks := .later }
def PackedMakesCardSaid : Prop := Claim7.holds Tryd.pinned (.plain (OpenSpec.ofChange packedMakesSpec)) packedMakesCard

/-- THE TIED CARD OF 'tesseraelaw04.PackedSizes'. -/
def packedSizesCard : Claim7 := { stood := { row := packedSizesRow, standIns := [], harness := (true, "91e2cc83db63c9f386282b119ab7b7c25bf4643df6468e9704f89ec4b443a9a8"), looks := true }, kinds := [], alts := [], laidByText := true, laidKinds := [.sentinel, .sentinel], laidTests := true, laidLooks := .later }
def PackedSizesCardSaid : Prop := Claim7.holds Tryd.pinned (.plain (OpenSpec.ofChange packedSizesSpec)) packedSizesCard

/-- THE TIED CARD OF 'tesseraelaw04.PackedBack'. -/
def packedBackCard : Claim7 := { stood := { row := packedBackRow, standIns := [], harness := (true, "91e2cc83db63c9f386282b119ab7b7c25bf4643df6468e9704f89ec4b443a9a8"), looks := true }, kinds := [], alts := [], laidByText := true, laidKinds := [.sentinel, .sentinel], laidTests := true, laidLooks := .later }
def PackedBackCardSaid : Prop := Claim7.holds Tryd.pinned (.plain (OpenSpec.ofChange packedBackSpec)) packedBackCard

/-- THE TIED CARD OF 'tesseraelaw04.PackedMore'. -/
def packedMoreCard : Claim7 := { stood := { row := packedMoreRow, standIns := [], harness := (true, "91e2cc83db63c9f386282b119ab7b7c25bf4643df6468e9704f89ec4b443a9a8"), looks := true }, kinds := [], alts := [], laidByText := true, laidKinds := [.sentinel, .sentinel], laidTests := true, laidLooks := .later }
def PackedMoreCardSaid : Prop := Claim7.holds Tryd.pinned (.plain (OpenSpec.ofChange packedMoreSpec)) packedMoreCard

/-- THE TIED CARD OF 'tesseraelaw04.PackedWidths'. -/
def packedWidthsCard : Claim7 := { stood := { row := packedWidthsRow, standIns := [], harness := (true, "91e2cc83db63c9f386282b119ab7b7c25bf4643df6468e9704f89ec4b443a9a8"), looks := true }, kinds := [], alts := [], laidByText := true, laidKinds := [.sentinel, .sentinel], laidTests := true, laidLooks := .later }
def PackedWidthsCardSaid : Prop := Claim7.holds Tryd.pinned (.plain (OpenSpec.ofChange packedWidthsSpec)) packedWidthsCard

/-- THE TIED CARD OF 'tesseraelaw04.PackedPlaces'. -/
def packedPlacesCard : Claim7 := { stood := { row := packedPlacesRow, standIns := [], harness := (true, "91e2cc83db63c9f386282b119ab7b7c25bf4643df6468e9704f89ec4b443a9a8"), looks := true }, kinds := [], alts := [], laidByText := true, laidKinds := [.sentinel, .sentinel], laidTests := true, laidLooks := .later }
def PackedPlacesCardSaid : Prop := Claim7.holds Tryd.pinned (.plain (OpenSpec.ofChange packedPlacesSpec)) packedPlacesCard

/-- THE SECOND FORM's CARD OF 'tesseraelaw04.PackedMakes'. -/
def packedMakesUptoCard : Claim7 := { stood := { row := packedMakesUptoRow, standIns := [], harness := (true, "91e2cc83db63c9f386282b119ab7b7c25bf4643df6468e9704f89ec4b443a9a8"), looks := true }, kinds := [], alts := [], laidByText := true, laidKinds := [.sentinel, .sentinel], laidTests := true, laidLooks := .later }
def PackedMakesUptoCardSaid : Prop := Claim7.holds Tryd.pinned (.plain (OpenSpec.upto packedMakesSpec)) packedMakesUptoCard

/-- THE SECOND FORM's CARD OF 'tesseraelaw04.PackedSizes'. -/
def packedSizesUptoCard : Claim7 := { stood := { row := packedSizesUptoRow, standIns := [], harness := (true, "91e2cc83db63c9f386282b119ab7b7c25bf4643df6468e9704f89ec4b443a9a8"), looks := true }, kinds := [], alts := [], laidByText := true, laidKinds := [.sentinel, .sentinel], laidTests := true, laidLooks := .later }
def PackedSizesUptoCardSaid : Prop := Claim7.holds Tryd.pinned (.plain (OpenSpec.upto packedSizesSpec)) packedSizesUptoCard

/-- THE SECOND FORM's CARD OF 'tesseraelaw04.PackedBack'. -/
def packedBackUptoCard : Claim7 := { stood := { row := packedBackUptoRow, standIns := [], harness := (true, "91e2cc83db63c9f386282b119ab7b7c25bf4643df6468e9704f89ec4b443a9a8"), looks := true }, kinds := [], alts := [], laidByText := true, laidKinds := [.sentinel, .sentinel], laidTests := true, laidLooks := .later }
def PackedBackUptoCardSaid : Prop := Claim7.holds Tryd.pinned (.plain (OpenSpec.upto packedBackSpec)) packedBackUptoCard

/-- THE SECOND FORM's CARD OF 'tesseraelaw04.PackedMore'. -/
def packedMoreUptoCard : Claim7 := { stood := { row := packedMoreUptoRow, standIns := [], harness := (true, "91e2cc83db63c9f386282b119ab7b7c25bf4643df6468e9704f89ec4b443a9a8"), looks := true }, kinds := [], alts := [], laidByText := true, laidKinds := [.sentinel, .sentinel], laidTests := true, laidLooks := .later }
def PackedMoreUptoCardSaid : Prop := Claim7.holds Tryd.pinned (.plain (OpenSpec.upto packedMoreSpec)) packedMoreUptoCard

/-- THE SECOND FORM's CARD OF 'tesseraelaw04.PackedWidths'. -/
def packedWidthsUptoCard : Claim7 := { stood := { row := packedWidthsUptoRow, standIns := [], harness := (true, "91e2cc83db63c9f386282b119ab7b7c25bf4643df6468e9704f89ec4b443a9a8"), looks := true }, kinds := [], alts := [], laidByText := true, laidKinds := [.sentinel, .sentinel], laidTests := true, laidLooks := .later }
def PackedWidthsUptoCardSaid : Prop := Claim7.holds Tryd.pinned (.plain (OpenSpec.upto packedWidthsSpec)) packedWidthsUptoCard

/-- THE SECOND FORM's CARD OF 'tesseraelaw04.PackedPlaces'. -/
def packedPlacesUptoCard : Claim7 := { stood := { row := packedPlacesUptoRow, standIns := [], harness := (true, "91e2cc83db63c9f386282b119ab7b7c25bf4643df6468e9704f89ec4b443a9a8"), looks := true }, kinds := [], alts := [], laidByText := true, laidKinds := [.sentinel, .sentinel], laidTests := true, laidLooks := .later }
def PackedPlacesUptoCardSaid : Prop := Claim7.holds Tryd.pinned (.plain (OpenSpec.upto packedPlacesSpec)) packedPlacesUptoCard
end Rows
end Go.Proofs.YtmimepjokkcbeaaDoor
