/-
  DERIVED. GIVEN WITH THE SEED: THE CARDS: each row of YtofoloidllkfaaaDoorRows.lean that lists a variable, with what it lists TIED to the program's text (the seventh form; the later family's looks); each row that meets fmt, with fmt's text TOLD by the authors' own Lean function (tested against real Go, not proved from fmt's source: count such statements apart). THE CARD IS WHAT COUNTS. Prove the row's statement (the work); the ties are given (YtofoloidllkfaaaDoorTie.lean); close each card by the builder's one call (the guide's Derived/Test/ToyasCard.lean, 'card_holds'). Laid BY PROGRAM, IN A SANDBOX (cutbox-door.mjs). By AI agents, Wed Nov 11 2026. No macro, syntax, notation, axiom, sorry.
-/
import Derived.Test.YtofoloidllkfaaaDoorRows
import GoSem.ClaimSeven
namespace Go.Proofs.YtofoloidllkfaaaDoor
namespace Rows

/-- THE TIED CARD OF 'feedvaultlaw05.XmlescapeMatchesReference'. -/
def xmlescapeMatchesReferenceCard : Claim7 := { stood := { row := xmlescapeMatchesReferenceRow, standIns := [], harness := (true, "6ceb45600133b67eab17c9b56518e9ce9c8ff36210b487f9030291b7338f1d64"), looks := false }, kinds := [], alts := [], laidByText := true, laidKinds := [.data], laidTests := true, laidLooks := .later }
def XmlescapeMatchesReferenceCardSaid : Prop := Claim7.holds Tryd.pinned (.plain (OpenSpec.ofChange xmlescapeMatchesReferenceSpec)) xmlescapeMatchesReferenceCard

/-- THE TIED CARD OF 'feedvaultlaw05.XmlescapeReferences'. -/
def xmlescapeReferencesCard : Claim7 := { stood := { row := xmlescapeReferencesRow, standIns := [], harness := (true, "6ceb45600133b67eab17c9b56518e9ce9c8ff36210b487f9030291b7338f1d64"), looks := false }, kinds := [], alts := [], laidByText := true, laidKinds := [.data], laidTests := true, laidLooks := .later }
def XmlescapeReferencesCardSaid : Prop := Claim7.holds Tryd.pinned (.plain (OpenSpec.ofChange xmlescapeReferencesSpec)) xmlescapeReferencesCard

/-- THE TIED CARD OF 'feedvaultlaw05.XmlescapeUnescapes'. -/
def xmlescapeUnescapesCard : Claim7 := { stood := { row := xmlescapeUnescapesRow, standIns := [], harness := (true, "6ceb45600133b67eab17c9b56518e9ce9c8ff36210b487f9030291b7338f1d64"), looks := false }, kinds := [], alts := [], laidByText := true, laidKinds := [.data], laidTests := true, laidLooks := .later }
def XmlescapeUnescapesCardSaid : Prop := Claim7.holds Tryd.pinned (.plain (OpenSpec.ofChange xmlescapeUnescapesSpec)) xmlescapeUnescapesCard

/-- THE TIED CARD OF 'feedvaultlaw05.XmlescapeRoundTrip'. -/
def xmlescapeRoundTripCard : Claim7 := { stood := { row := xmlescapeRoundTripRow, standIns := [], harness := (true, "6ceb45600133b67eab17c9b56518e9ce9c8ff36210b487f9030291b7338f1d64"), looks := false }, kinds := [], alts := [], laidByText := true, laidKinds := [.data], laidTests := true, laidLooks := .later }
def XmlescapeRoundTripCardSaid : Prop := Claim7.holds Tryd.pinned (.plain (OpenSpec.ofChange xmlescapeRoundTripSpec)) xmlescapeRoundTripCard

/-- THE TIED CARD OF 'feedvaultlaw05.XmlescapeConcatenation'. -/
def xmlescapeConcatenationCard : Claim7 := { stood := { row := xmlescapeConcatenationRow, standIns := [], harness := (true, "6ceb45600133b67eab17c9b56518e9ce9c8ff36210b487f9030291b7338f1d64"), looks := false }, kinds := [], alts := [], laidByText := true, laidKinds := [.data], laidTests := true, laidLooks := .later }
def XmlescapeConcatenationCardSaid : Prop := Claim7.holds Tryd.pinned (.plain (OpenSpec.ofChange xmlescapeConcatenationSpec)) xmlescapeConcatenationCard

/-- THE TIED CARD OF 'feedvaultlaw05.XmlescapeNumbers'. -/
def xmlescapeNumbersCard : Claim7 := { stood := { row := xmlescapeNumbersRow, standIns := [], harness := (true, "6ceb45600133b67eab17c9b56518e9ce9c8ff36210b487f9030291b7338f1d64"), looks := false }, kinds := [], alts := [], laidByText := true, laidKinds := [.data], laidTests := true, laidLooks := .later }
def XmlescapeNumbersCardSaid : Prop := Claim7.holds Tryd.pinned (.plain (OpenSpec.ofChange xmlescapeNumbersSpec)) xmlescapeNumbersCard

/-- THE SECOND FORM's CARD OF 'feedvaultlaw05.XmlescapeMatchesReference'. -/
def xmlescapeMatchesReferenceUptoCard : Claim7 := { stood := { row := xmlescapeMatchesReferenceUptoRow, standIns := [], harness := (true, "6ceb45600133b67eab17c9b56518e9ce9c8ff36210b487f9030291b7338f1d64"), looks := false }, kinds := [], alts := [], laidByText := true, laidKinds := [.data], laidTests := true, laidLooks := .later }
def XmlescapeMatchesReferenceUptoCardSaid : Prop := Claim7.holds Tryd.pinned (.plain (OpenSpec.upto xmlescapeMatchesReferenceSpec)) xmlescapeMatchesReferenceUptoCard

/-- THE SECOND FORM's CARD OF 'feedvaultlaw05.XmlescapeReferences'. -/
def xmlescapeReferencesUptoCard : Claim7 := { stood := { row := xmlescapeReferencesUptoRow, standIns := [], harness := (true, "6ceb45600133b67eab17c9b56518e9ce9c8ff36210b487f9030291b7338f1d64"), looks := false }, kinds := [], alts := [], laidByText := true, laidKinds := [.data], laidTests := true, laidLooks := .later }
def XmlescapeReferencesUptoCardSaid : Prop := Claim7.holds Tryd.pinned (.plain (OpenSpec.upto xmlescapeReferencesSpec)) xmlescapeReferencesUptoCard

/-- THE SECOND FORM's CARD OF 'feedvaultlaw05.XmlescapeUnescapes'. -/
def xmlescapeUnescapesUptoCard : Claim7 := { stood := { row := xmlescapeUnescapesUptoRow, standIns := [], harness := (true, "6ceb45600133b67eab17c9b56518e9ce9c8ff36210b487f9030291b7338f1d64"), looks := false }, kinds := [], alts := [], laidByText := true, laidKinds := [.data], laidTests := true, laidLooks := .later }
def XmlescapeUnescapesUptoCardSaid : Prop := Claim7.holds Tryd.pinned (.plain (OpenSpec.upto xmlescapeUnescapesSpec)) xmlescapeUnescapesUptoCard

/-- THE SECOND FORM's CARD OF 'feedvaultlaw05.XmlescapeRoundTrip'. -/
def xmlescapeRoundTripUptoCard : Claim7 := { stood := { row := xmlescapeRoundTripUptoRow, standIns := [], harness := (true, "6ceb45600133b67eab17c9b56518e9ce9c8ff36210b487f9030291b7338f1d64"), looks := false }, kinds := [], alts := [], laidByText := true, laidKinds := [.data], laidTests := true, laidLooks := .later }
def XmlescapeRoundTripUptoCardSaid : Prop := Claim7.holds Tryd.pinned (.plain (OpenSpec.upto xmlescapeRoundTripSpec)) xmlescapeRoundTripUptoCard

/-- THE SECOND FORM's CARD OF 'feedvaultlaw05.XmlescapeConcatenation'. -/
def xmlescapeConcatenationUptoCard : Claim7 := { stood := { row := xmlescapeConcatenationUptoRow, standIns := [], harness := (true, "6ceb45600133b67eab17c9b56518e9ce9c8ff36210b487f9030291b7338f1d64"), looks := false }, kinds := [], alts := [], laidByText := true, laidKinds := [.data], laidTests := true, laidLooks := .later }
def XmlescapeConcatenationUptoCardSaid : Prop := Claim7.holds Tryd.pinned (.plain (OpenSpec.upto xmlescapeConcatenationSpec)) xmlescapeConcatenationUptoCard

/-- THE SECOND FORM's CARD OF 'feedvaultlaw05.XmlescapeNumbers'. -/
def xmlescapeNumbersUptoCard : Claim7 := { stood := { row := xmlescapeNumbersUptoRow, standIns := [], harness := (true, "6ceb45600133b67eab17c9b56518e9ce9c8ff36210b487f9030291b7338f1d64"), looks := false }, kinds := [], alts := [], laidByText := true, laidKinds := [.data], laidTests := true, laidLooks := .later }
def XmlescapeNumbersUptoCardSaid : Prop := Claim7.holds Tryd.pinned (.plain (OpenSpec.upto xmlescapeNumbersSpec)) xmlescapeNumbersUptoCard
end Rows
end Go.Proofs.YtofoloidllkfaaaDoor
