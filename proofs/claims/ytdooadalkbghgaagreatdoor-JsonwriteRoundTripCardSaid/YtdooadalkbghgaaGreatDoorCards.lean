/-
  DERIVED. GIVEN WITH THE SEED: THE CARDS: each row of YtdooadalkbghgaaGreatDoorRows.lean that lists a variable, with what it lists TIED to the program's text (the seventh form; the later family's looks); each row that meets fmt, with fmt's text TOLD by the authors' own Lean function (tested against real Go, not proved from fmt's source: count such statements apart). THE CARD IS WHAT COUNTS. Prove the row's statement (the work); the ties are given (YtdooadalkbghgaaGreatDoorTie.lean); close each card by the builder's one call (the guide's Derived/Test/ToyasCard.lean, 'card_holds'). Laid BY PROGRAM, IN A SANDBOX (cutbox-door.mjs). By AI agents, Wed Nov 11 2026. No macro, syntax, notation, axiom, sorry.
-/
import Derived.Test.YtdooadalkbghgaaGreatDoorRows
import GoSem.ClaimSeven
namespace Go.Proofs.YtdooadalkbghgaaGreatDoor
namespace Rows

/-- THE TIED CARD OF 'feedvaultlaw12.JsonwriteRoundTrip'. -/
def jsonwriteRoundTripCard : Claim7 := { stood := { row := jsonwriteRoundTripRow, standIns := [], harness := (true, "d36d0cf9035a5e746287cac2a56f980ff9907dab5d4af4c495e97ede7067f8ec"), looks := true }, kinds := [], alts := [], laidByText := true, laidKinds := [.data, .data, .data, .data, .sentinel, .sentinel, .data, .pinned], laidTests := true, laidLooks := .later }
def JsonwriteRoundTripCardSaid : Prop := Claim7.holds Tryz.pinned (.plain (OpenSpec.ofChange jsonwriteRoundTripSpec)) jsonwriteRoundTripCard

/-- THE SECOND FORM's CARD OF 'feedvaultlaw12.JsonwriteRoundTrip'. -/
def jsonwriteRoundTripUptoCard : Claim7 := { stood := { row := jsonwriteRoundTripUptoRow, standIns := [], harness := (true, "d36d0cf9035a5e746287cac2a56f980ff9907dab5d4af4c495e97ede7067f8ec"), looks := true }, kinds := [], alts := [], laidByText := true, laidKinds := [.data, .data, .data, .data, .sentinel, .sentinel, .data, .pinned], laidTests := true, laidLooks := .later }
def JsonwriteRoundTripUptoCardSaid : Prop := Claim7.holds Tryz.pinned (.plain (OpenSpec.upto jsonwriteRoundTripSpec)) jsonwriteRoundTripUptoCard
end Rows
end Go.Proofs.YtdooadalkbghgaaGreatDoor
