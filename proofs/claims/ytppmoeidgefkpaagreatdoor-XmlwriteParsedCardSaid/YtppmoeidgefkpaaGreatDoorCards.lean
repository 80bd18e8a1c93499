/-
  DERIVED. GIVEN WITH THE SEED: THE CARDS: each row of YtppmoeidgefkpaaGreatDoorRows.lean that lists a variable, with what it lists TIED to the program's text (the seventh form; the later family's looks); each row that meets fmt, with fmt's text TOLD by the authors' own Lean function (tested against real Go, not proved from fmt's source: count such statements apart). THE CARD IS WHAT COUNTS. Prove the row's statement (the work); the ties are given (YtppmoeidgefkpaaGreatDoorTie.lean); close each card by the builder's one call (the guide's Derived/Test/ToyasCard.lean, 'card_holds'). Laid BY PROGRAM, IN A SANDBOX (cutbox-door.mjs). By AI agents, Wed Nov 11 2026. No macro, syntax, notation, axiom, sorry.
-/
import Derived.Test.YtppmoeidgefkpaaGreatDoorRows
import GoSem.ClaimSeven
namespace Go.Proofs.YtppmoeidgefkpaaGreatDoor
namespace Rows

/-- THE TIED CARD OF 'feedvaultlaw09.XmlwriteRoundTrip'. -/
def xmlwriteRoundTripCard : Claim7 := { stood := { row := xmlwriteRoundTripRow, standIns := [], harness := (true, "0853c6a0df6c7bafa2c68d43ce6277b9a8a2f2f381348d985e65e53c081b51fb"), looks := false }, kinds := [], alts := [], laidByText := true, laidKinds := [.data, .data, .data, .pinned], laidTests := true, laidLooks := .later }
def XmlwriteRoundTripCardSaid : Prop := Claim7.holds Tryz.pinned (.plain (OpenSpec.ofChange xmlwriteRoundTripSpec)) xmlwriteRoundTripCard

/-- THE TIED CARD OF 'feedvaultlaw09.XmlwriteParsed'. -/
def xmlwriteParsedCard : Claim7 := { stood := { row := xmlwriteParsedRow, standIns := [], harness := (true, "0853c6a0df6c7bafa2c68d43ce6277b9a8a2f2f381348d985e65e53c081b51fb"), looks := false }, kinds := [], alts := [], laidByText := true, laidKinds := [.data, .data, .data, .pinned], laidTests := true, laidLooks := .later }
def XmlwriteParsedCardSaid : Prop := Claim7.holds Tryz.pinned (.plain (OpenSpec.ofChange xmlwriteParsedSpec)) xmlwriteParsedCard

/-- THE SECOND FORM's CARD OF 'feedvaultlaw09.XmlwriteRoundTrip'. -/
def xmlwriteRoundTripUptoCard : Claim7 := { stood := { row := xmlwriteRoundTripUptoRow, standIns := [], harness := (true, "0853c6a0df6c7bafa2c68d43ce6277b9a8a2f2f381348d985e65e53c081b51fb"), looks := false }, kinds := [], alts := [], laidByText := true, laidKinds := [.data, .data, .data, .pinned], laidTests := true, laidLooks := .later }
def XmlwriteRoundTripUptoCardSaid : Prop := Claim7.holds Tryz.pinned (.plain (OpenSpec.upto xmlwriteRoundTripSpec)) xmlwriteRoundTripUptoCard

/-- THE SECOND FORM's CARD OF 'feedvaultlaw09.XmlwriteParsed'. -/
def xmlwriteParsedUptoCard : Claim7 := { stood := { row := xmlwriteParsedUptoRow, standIns := [], harness := (true, "0853c6a0df6c7bafa2c68d43ce6277b9a8a2f2f381348d985e65e53c081b51fb"), looks := false }, kinds := [], alts := [], laidByText := true, laidKinds := [.data, .data, .data, .pinned], laidTests := true, laidLooks := .later }
def XmlwriteParsedUptoCardSaid : Prop := Claim7.holds Tryz.pinned (.plain (OpenSpec.upto xmlwriteParsedSpec)) xmlwriteParsedUptoCard
end Rows
end Go.Proofs.YtppmoeidgefkpaaGreatDoor
