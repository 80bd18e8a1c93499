/-
  DERIVED. GIVEN WITH THE SEED: THE CARDS: each row of YtdkinamblobjpaaDoorRows.lean that lists a variable, with what it lists TIED to the program's text (the seventh form; the later family's looks); each row that meets fmt, with fmt's text TOLD by the authors' own Lean function (tested against real Go, not proved from fmt's source: count such statements apart). THE CARD IS WHAT COUNTS. Prove the row's statement (the work); the ties are given (YtdkinamblobjpaaDoorTie.lean); close each card by the builder's one call (the guide's Derived/Test/ToyasCard.lean, 'card_holds'). Laid BY PROGRAM, IN A SANDBOX (cutbox-door.mjs). By AI agents, Wed Nov 11 2026. No macro, syntax, notation, axiom, sorry.
-/
import Derived.Test.YtdkinamblobjpaaDoorRows
import GoSem.ClaimSeven
namespace Go.Proofs.YtdkinamblobjpaaDoor
namespace Rows

/-- THE TIED CARD OF 'feedvaultlaw10.JsonstringQuotes'. -/
def jsonstringQuotesCard : Claim7 := { stood := { row := jsonstringQuotesRow, standIns := [], harness := (true, "23198b8c46dec290c6fa95474456a54323cced6a4b1e072aa97dacf2515e4616"), looks := true }, kinds := [], alts := [], laidByText := true, laidKinds := [.data, .data, .data, .data, .sentinel, .sentinel, .data, .pinned], laidTests := true, laidLooks := .later }
def JsonstringQuotesCardSaid : Prop := Claim7.holds Tryd.pinned (.plain (OpenSpec.ofChange jsonstringQuotesSpec)) jsonstringQuotesCard

/-- THE TIED CARD OF 'feedvaultlaw10.JsonstringParses'. -/
def jsonstringParsesCard : Claim7 := { stood := { row := jsonstringParsesRow, standIns := [], harness := (true, "23198b8c46dec290c6fa95474456a54323cced6a4b1e072aa97dacf2515e4616"), looks := true }, kinds := [], alts := [], laidByText := true, laidKinds := [.data, .data, .data, .data, .sentinel, .sentinel, .data, .pinned], laidTests := true, laidLooks := .later }
def JsonstringParsesCardSaid : Prop := Claim7.holds Tryd.pinned (.plain (OpenSpec.ofChange jsonstringParsesSpec)) jsonstringParsesCard

/-- THE TIED CARD OF 'feedvaultlaw10.JsonstringRoundTrip'. -/
def jsonstringRoundTripCard : Claim7 := { stood := { row := jsonstringRoundTripRow, standIns := [], harness := (true, "23198b8c46dec290c6fa95474456a54323cced6a4b1e072aa97dacf2515e4616"), looks := true }, kinds := [], alts := [], laidByText := true, laidKinds := [.data, .data, .data, .data, .sentinel, .sentinel, .data, .pinned], laidTests := true, laidLooks := .later }
def JsonstringRoundTripCardSaid : Prop := Claim7.holds Tryd.pinned (.plain (OpenSpec.ofChange jsonstringRoundTripSpec)) jsonstringRoundTripCard

/-- THE TIED CARD OF 'feedvaultlaw10.JsonstringConcatenation'. -/
def jsonstringConcatenationCard : Claim7 := { stood := { row := jsonstringConcatenationRow, standIns := [], harness := (true, "23198b8c46dec290c6fa95474456a54323cced6a4b1e072aa97dacf2515e4616"), looks := true }, kinds := [], alts := [], laidByText := true, laidKinds := [.data, .data, .data, .data, .sentinel, .sentinel, .data, .pinned], laidTests := true, laidLooks := .later }
def JsonstringConcatenationCardSaid : Prop := Claim7.holds Tryd.pinned (.plain (OpenSpec.ofChange jsonstringConcatenationSpec)) jsonstringConcatenationCard

/-- THE TIED CARD OF 'feedvaultlaw10.JsonstringNumbers'. -/
def jsonstringNumbersCard : Claim7 := { stood := { row := jsonstringNumbersRow, standIns := [], harness := (true, "23198b8c46dec290c6fa95474456a54323cced6a4b1e072aa97dacf2515e4616"), looks := true }, kinds := [], alts := [], laidByText := true, laidKinds := [.data, .data, .data, .data, .sentinel, .sentinel, .data, .pinned], laidTests := true, laidLooks := .later }
def JsonstringNumbersCardSaid : Prop := Claim7.holds Tryd.pinned (.plain (OpenSpec.ofChange jsonstringNumbersSpec)) jsonstringNumbersCard

/-- THE TIED CARD OF 'feedvaultlaw10.JsonstringPrefixes'. -/
def jsonstringPrefixesCard : Claim7 := { stood := { row := jsonstringPrefixesRow, standIns := [], harness := (true, "23198b8c46dec290c6fa95474456a54323cced6a4b1e072aa97dacf2515e4616"), looks := true }, kinds := [], alts := [], laidByText := true, laidKinds := [.data, .data, .data, .data, .sentinel, .sentinel, .data, .pinned], laidTests := true, laidLooks := .later }
def JsonstringPrefixesCardSaid : Prop := Claim7.holds Tryd.pinned (.plain (OpenSpec.ofChange jsonstringPrefixesSpec)) jsonstringPrefixesCard

/-- THE SECOND FORM's CARD OF 'feedvaultlaw10.JsonstringQuotes'. -/
def jsonstringQuotesUptoCard : Claim7 := { stood := { row := jsonstringQuotesUptoRow, standIns := [], harness := (true, "23198b8c46dec290c6fa95474456a54323cced6a4b1e072aa97dacf2515e4616"), looks := true }, kinds := [], alts := [], laidByText := true, laidKinds := [.data, .data, .data, .data, .sentinel, .sentinel, .data, .pinned], laidTests := true, laidLooks := .later }
def JsonstringQuotesUptoCardSaid : Prop := Claim7.holds Tryd.pinned (.plain (OpenSpec.upto jsonstringQuotesSpec)) jsonstringQuotesUptoCard

/-- THE SECOND FORM's CARD OF 'feedvaultlaw10.JsonstringParses'. -/
def jsonstringParsesUptoCard : Claim7 := { stood := { row := jsonstringParsesUptoRow, standIns := [], harness := (true, "23198b8c46dec290c6fa95474456a54323cced6a4b1e072aa97dacf2515e4616"), looks := true }, kinds := [], alts := [], laidByText := true, laidKinds := [.data, .data, .data, .data, .sentinel, .sentinel, .data, .pinned], laidTests := true, laidLooks := .later }
def JsonstringParsesUptoCardSaid : Prop := Claim7.holds Tryd.pinned (.plain (OpenSpec.upto jsonstringParsesSpec)) jsonstringParsesUptoCard

/-- THE SECOND FORM's CARD OF 'feedvaultlaw10.JsonstringRoundTrip'. -/
def jsonstringRoundTripUptoCard : Claim7 := { stood := { row := jsonstringRoundTripUptoRow, standIns := [], harness := (true, "23198b8c46dec290c6fa95474456a54323cced6a4b1e072aa97dacf2515e4616"), looks := true }, kinds := [], alts := [], laidByText := true, laidKinds := [.data, .data, .data, .data, .sentinel, .sentinel, .data, .pinned], laidTests := true, laidLooks := .later }
def JsonstringRoundTripUptoCardSaid : Prop := Claim7.holds Tryd.pinned (.plain (OpenSpec.upto jsonstringRoundTripSpec)) jsonstringRoundTripUptoCard

/-- THE SECOND FORM's CARD OF 'feedvaultlaw10.JsonstringConcatenation'. -/
def jsonstringConcatenationUptoCard : Claim7 := { stood := { row := jsonstringConcatenationUptoRow, standIns := [], harness := (true, "23198b8c46dec290c6fa95474456a54323cced6a4b1e072aa97dacf2515e4616"), looks := true }, kinds := [], alts := [], laidByText := true, laidKinds := [.data, .data, .data, .data, .sentinel, .sentinel, .data, .pinned], laidTests := true, laidLooks := .later }
def JsonstringConcatenationUptoCardSaid : Prop := Claim7.holds Tryd.pinned (.plain (OpenSpec.upto jsonstringConcatenationSpec)) jsonstringConcatenationUptoCard

/-- THE SECOND FORM's CARD OF 'feedvaultlaw10.JsonstringNumbers'. -/
def jsonstringNumbersUptoCard : Claim7 := { stood := { row := jsonstringNumbersUptoRow, standIns := [], harness := (true, "23198b8c46dec290c6fa95474456a54323cced6a4b1e072aa97dacf2515e4616"), looks := true }, kinds := [], alts := [], laidByText := true, laidKinds := [.data, .data, .data, .data, .sentinel, .sentinel, .data, .pinned], laidTests := true, laidLooks := .later }
def JsonstringNumbersUptoCardSaid : Prop := Claim7.holds Tryd.pinned (.plain (OpenSpec.upto jsonstringNumbersSpec)) jsonstringNumbersUptoCard

/-- THE SECOND FORM's CARD OF 'feedvaultlaw10.JsonstringPrefixes'. -/
def jsonstringPrefixesUptoCard : Claim7 := { stood := { row := jsonstringPrefixesUptoRow, standIns := [], harness := (true, "23198b8c46dec290c6fa95474456a54323cced6a4b1e072aa97dacf2515e4616"), looks := true }, kinds := [], alts := [], laidByText := true, laidKinds := [.data, .data, .data, .data, .sentinel, .sentinel, .data, .pinned], laidTests := true, laidLooks := .later }
def JsonstringPrefixesUptoCardSaid : Prop := Claim7.holds Tryd.pinned (.plain (OpenSpec.upto jsonstringPrefixesSpec)) jsonstringPrefixesUptoCard
end Rows
end Go.Proofs.YtdkinamblobjpaaDoor
