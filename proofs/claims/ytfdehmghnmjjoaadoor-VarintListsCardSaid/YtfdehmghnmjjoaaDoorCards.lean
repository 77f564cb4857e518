/-
  DERIVED. GIVEN WITH THE SEED: THE CARDS: each row of YtfdehmghnmjjoaaDoorRows.lean that lists a variable, with what it lists TIED to the program's text (the seventh form; the later family's looks); each row that meets fmt, with fmt's text TOLD by the authors' own Lean function (tested against real Go, not proved from fmt's source: count such statements apart). THE CARD IS WHAT COUNTS. Prove the row's statement (the work); the ties are given (YtfdehmghnmjjoaaDoorTie.lean); close each card by the builder's one call (the guide's Derived/Test/ToyasCard.lean, 'card_holds'). Laid BY PROGRAM, IN A SANDBOX (cutbox-door.mjs). By AI agents, Wed Nov 11 2026. No macro, syntax, notation, axiom, sorry.
-/
import Derived.Test.YtfdehmghnmjjoaaDoorRows
import GoSem.ClaimSeven
namespace Go.Proofs.YtfdehmghnmjjoaaDoor
namespace Rows

/-- THE TIED CARD OF 'tesseraelaw02.VarintPuts'. -/
def varintPutsCard : Claim7 := { stood := { row := varintPutsRow, standIns := [], harness := (true, "e2cd6cf2101dd1739a6904e7255252b94bc966d71b046211cd418b3c2ef221c4"), looks := true }, kinds := [], alts := [], laidByText := true, laidKinds := [.sentinel, .sentinel], laidTests := true, laidLooks := .later }
def VarintPutsCardSaid : Prop := Claim7.holds Tryd.pinned (.plain (OpenSpec.ofChange varintPutsSpec)) varintPutsCard

/-- THE TIED CARD OF 'tesseraelaw02.VarintBack'. -/
def varintBackCard : Claim7 := { stood := { row := varintBackRow, standIns := [], harness := (true, "e2cd6cf2101dd1739a6904e7255252b94bc966d71b046211cd418b3c2ef221c4"), looks := true }, kinds := [], alts := [], laidByText := true, laidKinds := [.sentinel, .sentinel], laidTests := true, laidLooks := .later }
def VarintBackCardSaid : Prop := Claim7.holds Tryd.pinned (.plain (OpenSpec.ofChange varintBackSpec)) varintBackCard

/-- THE TIED CARD OF 'tesseraelaw02.VarintMore'. -/
def varintMoreCard : Claim7 := { stood := { row := varintMoreRow, standIns := [], harness := (true, "e2cd6cf2101dd1739a6904e7255252b94bc966d71b046211cd418b3c2ef221c4"), looks := true }, kinds := [], alts := [], laidByText := true, laidKinds := [.sentinel, .sentinel], laidTests := true, laidLooks := .later }
def VarintMoreCardSaid : Prop := Claim7.holds Tryd.pinned (.plain (OpenSpec.ofChange varintMoreSpec)) varintMoreCard

/-- THE TIED CARD OF 'tesseraelaw02.VarintLists'. -/
def varintListsCard : Claim7 := { stood := { row := varintListsRow, standIns := [], harness := (true, "e2cd6cf2101dd1739a6904e7255252b94bc966d71b046211cd418b3c2ef221c4"), looks := true }, kinds := [], alts := [], laidByText := true, laidKinds := [.sentinel, .sentinel], laidTests := true, laidLooks := .later }
def VarintListsCardSaid : Prop := Claim7.holds Tryd.pinned (.plain (OpenSpec.ofChange varintListsSpec)) varintListsCard

/-- THE TIED CARD OF 'tesseraelaw02.VarintSizes'. -/
def varintSizesCard : Claim7 := { stood := { row := varintSizesRow, standIns := [], harness := (true, "e2cd6cf2101dd1739a6904e7255252b94bc966d71b046211cd418b3c2ef221c4"), looks := true }, kinds := [], alts := [], laidByText := true, laidKinds := [.sentinel, .sentinel], laidTests := true, laidLooks := .later }
def VarintSizesCardSaid : Prop := Claim7.holds Tryd.pinned (.plain (OpenSpec.ofChange varintSizesSpec)) varintSizesCard

/-- THE SECOND FORM's CARD OF 'tesseraelaw02.VarintPuts'. -/
def varintPutsUptoCard : Claim7 := { stood := { row := varintPutsUptoRow, standIns := [], harness := (true, "e2cd6cf2101dd1739a6904e7255252b94bc966d71b046211cd418b3c2ef221c4"), looks := true }, kinds := [], alts := [], laidByText := true, laidKinds := [.sentinel, .sentinel], laidTests := true, laidLooks := .later }
def VarintPutsUptoCardSaid : Prop := Claim7.holds Tryd.pinned (.plain (OpenSpec.upto varintPutsSpec)) varintPutsUptoCard

/-- THE SECOND FORM's CARD OF 'tesseraelaw02.VarintBack'. -/
def varintBackUptoCard : Claim7 := { stood := { row := varintBackUptoRow, standIns := [], harness := (true, "e2cd6cf2101dd1739a6904e7255252b94bc966d71b046211cd418b3c2ef221c4"), looks := true }, kinds := [], alts := [], laidByText := true, laidKinds := [.sentinel, .sentinel], laidTests := true, laidLooks := .later }
def VarintBackUptoCardSaid : Prop := Claim7.holds Tryd.pinned (.plain (OpenSpec.upto varintBackSpec)) varintBackUptoCard

/-- THE SECOND FORM's CARD OF 'tesseraelaw02.VarintMore'. -/
def varintMoreUptoCard : Claim7 := { stood := { row := varintMoreUptoRow, standIns := [], harness := (true, "e2cd6cf2101dd1739a6904e7255252b94bc966d71b046211cd418b3c2ef221c4"), looks := true }, kinds := [], alts := [], laidByText := true, laidKinds := [.sentinel, .sentinel], laidTests := true, laidLooks := .later }
def VarintMoreUptoCardSaid : Prop := Claim7.holds Tryd.pinned (.plain (OpenSpec.upto varintMoreSpec)) varintMoreUptoCard

/-- THE SECOND FORM's CARD OF 'tesseraelaw02.VarintLists'. -/
def varintListsUptoCard : Claim7 := { stood := { row := varintListsUptoRow, standIns := [], harness := (true, "e2cd6cf2101dd1739a6904e7255252b94bc966d71b046211cd418b3c2ef221c4"), looks := true }, kinds := [], alts := [], laidByText := true, laidKinds := [.sentinel, .sentinel], laidTests := true, laidLooks := .later }
def VarintListsUptoCardSaid : Prop := Claim7.holds Tryd.pinned (.plain (OpenSpec.upto varintListsSpec)) varintListsUptoCard

/-- THE SECOND FORM's CARD OF 'tesseraelaw02.VarintSizes'. -/
def varintSizesUptoCard : Claim7 := { stood := { row := varintSizesUptoRow, standIns := [], harness := (true, "e2cd6cf2101dd1739a6904e7255252b94bc966d71b046211cd418b3c2ef221c4"), looks := true }, kinds := [], alts := [], laidByText := true, laidKinds := [.sentinel, .sentinel], laidTests := true, laidLooks := .later }
def VarintSizesUptoCardSaid : Prop := Claim7.holds Tryd.pinned (.plain (OpenSpec.upto varintSizesSpec)) varintSizesUptoCard
end Rows
end Go.Proofs.YtfdehmghnmjjoaaDoor
