/-
  DERIVED. GIVEN WITH THE SEED: THE CARDS: each row of YtbfchlfagdhglaaDoorRows.lean that lists a variable, with what it lists TIED to the program's text (the seventh form; the later family's looks); each row that meets fmt, with fmt's text TOLD by the authors' own Lean function (tested against real Go, not proved from fmt's source: count such statements apart). THE CARD IS WHAT COUNTS. Prove the row's statement (the work); the ties are given (YtbfchlfagdhglaaDoorTie.lean); close each card by the builder's one call (the guide's Derived/Test/ToyasCard.lean, 'card_holds'). Laid BY PROGRAM, IN A SANDBOX (cutbox-door.mjs). By AI agents, Wed Nov 11 2026. No macro, syntax, notation, axiom, sorry.
-/
import Derived.Test.YtbfchlfagdhglaaDoorRows
import GoSem.ClaimSeven
namespace Go.Proofs.YtbfchlfagdhglaaDoor
namespace Rows

/-- THE TIED CARD OF 'tesseraelaw07.RoarCodes'. -/
def roarCodesCard : Claim7 := { stood := { row := roarCodesRow, standIns := [], harness := (true, "db7d098d8c1652749cf917ac6bf9a3cfc8ffa00797432068411c497573ddb498"), looks := true }, kinds := [], alts := [], laidByText := true, laidKinds := [.sentinel, .sentinel, .sentinel, .sentinel, .sentinel], laidTests := true, laidLooks := .later }
def RoarCodesCardSaid : Prop := Claim7.holds Tryd.pinned (.plain (OpenSpec.ofChange roarCodesSpec)) roarCodesCard

/-- THE TIED CARD OF 'tesseraelaw07.RoarBack'. -/
def roarBackCard : Claim7 := { stood := { row := roarBackRow, standIns := [], harness := (true, "db7d098d8c1652749cf917ac6bf9a3cfc8ffa00797432068411c497573ddb498"), looks := true }, kinds := [], alts := [], laidByText := true, laidKinds := [.sentinel, .sentinel, .sentinel, .sentinel, .sentinel], laidTests := true, laidLooks := .later }
def RoarBackCardSaid : Prop := Claim7.holds Tryd.pinned (.plain (OpenSpec.ofChange roarBackSpec)) roarBackCard

/-- THE SECOND FORM's CARD OF 'tesseraelaw07.RoarCodes'. -/
def roarCodesUptoCard : Claim7 := { stood := { row := roarCodesUptoRow, standIns := [], harness := (true, "db7d098d8c1652749cf917ac6bf9a3cfc8ffa00797432068411c497573ddb498"), looks := true }, kinds := [], alts := [], laidByText := true, laidKinds := [.sentinel, .sentinel, .sentinel, .sentinel, .sentinel], laidTests := true, laidLooks := .later }
def RoarCodesUptoCardSaid : Prop := Claim7.holds Tryd.pinned (.plain (OpenSpec.upto roarCodesSpec)) roarCodesUptoCard

/-- THE SECOND FORM's CARD OF 'tesseraelaw07.RoarBack'. -/
def roarBackUptoCard : Claim7 := { stood := { row := roarBackUptoRow, standIns := [], harness := (true, "db7d098d8c1652749cf917ac6bf9a3cfc8ffa00797432068411c497573ddb498"), looks := true }, kinds := [], alts := [], laidByText := true, laidKinds := [.sentinel, .sentinel, .sentinel, .sentinel, .sentinel], laidTests := true, laidLooks := .later }
def RoarBackUptoCardSaid : Prop := Claim7.holds Tryd.pinned (.plain (OpenSpec.upto roarBackSpec)) roarBackUptoCard
end Rows
end Go.Proofs.YtbfchlfagdhglaaDoor
