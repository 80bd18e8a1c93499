/-
  DERIVED. GIVEN WITH THE SEED: THE CARDS: each row of YtcppenmcnhkdhaaDoorRows.lean that lists a variable, with what it lists TIED to the program's text (the seventh form; the later family's looks); each row that meets fmt, with fmt's text TOLD by the authors' own Lean function (tested against real Go, not proved from fmt's source: count such statements apart). THE CARD IS WHAT COUNTS. Prove the row's statement (the work); the ties are given (YtcppenmcnhkdhaaDoorTie.lean); close each card by the builder's one call (the guide's Derived/Test/ToyasCard.lean, 'card_holds'). Laid BY PROGRAM, IN A SANDBOX (cutbox-door.mjs). By AI agents, Wed Nov 11 2026. No macro, syntax, notation, axiom, sorry.
-/
import Derived.Test.YtcppenmcnhkdhaaDoorRows
import GoSem.ClaimSeven
namespace Go.Proofs.YtcppenmcnhkdhaaDoor
namespace Rows

/-- THE TIED CARD OF 'feedvaultlaw01.TextDecodeMatchesReference'. -/
def textDecodeMatchesReferenceCard : Claim7 := { stood := { row := textDecodeMatchesReferenceRow, standIns := [], harness := (true, "164a5ec60a94174a7c1e94ca4bcf3281a440a90593132ae5724860b3da3eb655"), looks := false }, kinds := [], alts := [], laidByText := true, laidKinds := [.data, .data, .pinned], laidTests := true, laidLooks := .later }
def TextDecodeMatchesReferenceCardSaid : Prop := Claim7.holds Tryd.pinned (.plain (OpenSpec.ofChange textDecodeMatchesReferenceSpec)) textDecodeMatchesReferenceCard

/-- THE TIED CARD OF 'feedvaultlaw01.TextCheckMatchesReference'. -/
def textCheckMatchesReferenceCard : Claim7 := { stood := { row := textCheckMatchesReferenceRow, standIns := [], harness := (true, "164a5ec60a94174a7c1e94ca4bcf3281a440a90593132ae5724860b3da3eb655"), looks := false }, kinds := [], alts := [], laidByText := true, laidKinds := [.data, .data, .pinned], laidTests := true, laidLooks := .later }
def TextCheckMatchesReferenceCardSaid : Prop := Claim7.holds Tryd.pinned (.plain (OpenSpec.ofChange textCheckMatchesReferenceSpec)) textCheckMatchesReferenceCard

/-- THE TIED CARD OF 'feedvaultlaw01.TextClassesMatchReference'. -/
def textClassesMatchReferenceCard : Claim7 := { stood := { row := textClassesMatchReferenceRow, standIns := [], harness := (true, "164a5ec60a94174a7c1e94ca4bcf3281a440a90593132ae5724860b3da3eb655"), looks := false }, kinds := [], alts := [], laidByText := true, laidKinds := [.data, .data, .pinned], laidTests := true, laidLooks := .later }
def TextClassesMatchReferenceCardSaid : Prop := Claim7.holds Tryd.pinned (.plain (OpenSpec.ofChange textClassesMatchReferenceSpec)) textClassesMatchReferenceCard

/-- THE TIED CARD OF 'feedvaultlaw01.TextNames'. -/
def textNamesCard : Claim7 := { stood := { row := textNamesRow, standIns := [], harness := (true, "164a5ec60a94174a7c1e94ca4bcf3281a440a90593132ae5724860b3da3eb655"), looks := false }, kinds := [], alts := [], laidByText := true, laidKinds := [.data, .data, .pinned], laidTests := true, laidLooks := .later }
def TextNamesCardSaid : Prop := Claim7.holds Tryd.pinned (.plain (OpenSpec.ofChange textNamesSpec)) textNamesCard

/-- THE TIED CARD OF 'feedvaultlaw01.TextCollapseMatchesReference'. -/
def textCollapseMatchesReferenceCard : Claim7 := { stood := { row := textCollapseMatchesReferenceRow, standIns := [], harness := (true, "164a5ec60a94174a7c1e94ca4bcf3281a440a90593132ae5724860b3da3eb655"), looks := false }, kinds := [], alts := [], laidByText := true, laidKinds := [.data, .data, .pinned], laidTests := true, laidLooks := .later }
def TextCollapseMatchesReferenceCardSaid : Prop := Claim7.holds Tryd.pinned (.plain (OpenSpec.ofChange textCollapseMatchesReferenceSpec)) textCollapseMatchesReferenceCard

/-- THE TIED CARD OF 'feedvaultlaw01.TextCollapseComposes'. -/
def textCollapseComposesCard : Claim7 := { stood := { row := textCollapseComposesRow, standIns := [], harness := (true, "164a5ec60a94174a7c1e94ca4bcf3281a440a90593132ae5724860b3da3eb655"), looks := false }, kinds := [], alts := [], laidByText := true, laidKinds := [.data, .data, .pinned], laidTests := true, laidLooks := .later }
def TextCollapseComposesCardSaid : Prop := Claim7.holds Tryd.pinned (.plain (OpenSpec.ofChange textCollapseComposesSpec)) textCollapseComposesCard

/-- THE TIED CARD OF 'feedvaultlaw01.TextCheckConcatenation'. -/
def textCheckConcatenationCard : Claim7 := { stood := { row := textCheckConcatenationRow, standIns := [], harness := (true, "164a5ec60a94174a7c1e94ca4bcf3281a440a90593132ae5724860b3da3eb655"), looks := false }, kinds := [], alts := [], laidByText := true, laidKinds := [.data, .data, .pinned], laidTests := true, laidLooks := .later }
def TextCheckConcatenationCardSaid : Prop := Claim7.holds Tryd.pinned (.plain (OpenSpec.ofChange textCheckConcatenationSpec)) textCheckConcatenationCard

/-- THE SECOND FORM's CARD OF 'feedvaultlaw01.TextDecodeMatchesReference'. -/
def textDecodeMatchesReferenceUptoCard : Claim7 := { stood := { row := textDecodeMatchesReferenceUptoRow, standIns := [], harness := (true, "164a5ec60a94174a7c1e94ca4bcf3281a440a90593132ae5724860b3da3eb655"), looks := false }, kinds := [], alts := [], laidByText := true, laidKinds := [.data, .data, .pinned], laidTests := true, laidLooks := .later }
def TextDecodeMatchesReferenceUptoCardSaid : Prop := Claim7.holds Tryd.pinned (.plain (OpenSpec.upto textDecodeMatchesReferenceSpec)) textDecodeMatchesReferenceUptoCard

/-- THE SECOND FORM's CARD OF 'feedvaultlaw01.TextCheckMatchesReference'. -/
def textCheckMatchesReferenceUptoCard : Claim7 := { stood := { row := textCheckMatchesReferenceUptoRow, standIns := [], harness := (true, "164a5ec60a94174a7c1e94ca4bcf3281a440a90593132ae5724860b3da3eb655"), looks := false }, kinds := [], alts := [], laidByText := true, laidKinds := [.data, .data, .pinned], laidTests := true, laidLooks := .later }
def TextCheckMatchesReferenceUptoCardSaid : Prop := Claim7.holds Tryd.pinned (.plain (OpenSpec.upto textCheckMatchesReferenceSpec)) textCheckMatchesReferenceUptoCard

/-- THE SECOND FORM's CARD OF 'feedvaultlaw01.TextClassesMatchReference'. -/
def textClassesMatchReferenceUptoCard : Claim7 := { stood := { row := textClassesMatchReferenceUptoRow, standIns := [], harness := (true, "164a5ec60a94174a7c1e94ca4bcf3281a440a90593132ae5724860b3da3eb655"), looks := false }, kinds := [], alts := [], laidByText := true, laidKinds := [.data, .data, .pinned], laidTests := true, laidLooks := .later }
def TextClassesMatchReferenceUptoCardSaid : Prop := Claim7.holds Tryd.pinned (.plain (OpenSpec.upto textClassesMatchReferenceSpec)) textClassesMatchReferenceUptoCard

/-- THE SECOND FORM's CARD OF 'feedvaultlaw01.TextNames'. -/
def textNamesUptoCard : Claim7 := { stood := { row := textNamesUptoRow, standIns := [], harness := (true, "164a5ec60a94174a7c1e94ca4bcf3281a440a90593132ae5724860b3da3eb655"), looks := false }, kinds := [], alts := [], laidByText := true, laidKinds := [.data, .data, .pinned], laidTests := true, laidLooks := .later }
def TextNamesUptoCardSaid : Prop := Claim7.holds Tryd.pinned (.plain (OpenSpec.upto textNamesSpec)) textNamesUptoCard

/-- THE SECOND FORM's CARD OF 'feedvaultlaw01.TextCollapseMatchesReference'. -/
def textCollapseMatchesReferenceUptoCard : Claim7 := { stood := { row := textCollapseMatchesReferenceUptoRow, standIns := [], harness := (true, "164a5ec60a94174a7c1e94ca4bcf3281a440a90593132ae5724860b3da3eb655"), looks := false }, kinds := [], alts := [], laidByText := true, laidKinds := [.data, .data, .pinned], laidTests := true, laidLooks := .later }
def TextCollapseMatchesReferenceUptoCardSaid : Prop := Claim7.holds Tryd.pinned (.plain (OpenSpec.upto textCollapseMatchesReferenceSpec)) textCollapseMatchesReferenceUptoCard

/-- THE SECOND FORM's CARD OF 'feedvaultlaw01.TextCollapseComposes'. -/
def textCollapseComposesUptoCard : Claim7 := { stood := { row := textCollapseComposesUptoRow, standIns := [], harness := (true, "164a5ec60a94174a7c1e94ca4bcf3281a440a90593132ae5724860b3da3eb655"), looks := false }, kinds := [], alts := [], laidByText := true, laidKinds := [.data, .data, .pinned], laidTests := true, laidLooks := .later }
def TextCollapseComposesUptoCardSaid : Prop := Claim7.holds Tryd.pinned (.plain (OpenSpec.upto textCollapseComposesSpec)) textCollapseComposesUptoCard

/-- THE SECOND FORM's CARD OF 'feedvaultlaw01.TextCheckConcatenation'. -/
def textCheckConcatenationUptoCard : Claim7 := { stood := { row := textCheckConcatenationUptoRow, standIns := [], harness := (true, "164a5ec60a94174a7c1e94ca4bcf3281a440a90593132ae5724860b3da3eb655"), looks := false }, kinds := [], alts := [], laidByText := true, laidKinds := [.data, .data, .pinned], laidTests := true, laidLooks := .later }
def TextCheckConcatenationUptoCardSaid : Prop := Claim7.holds Tryd.pinned (.plain (OpenSpec.upto textCheckConcatenationSpec)) textCheckConcatenationUptoCard
end Rows
end Go.Proofs.YtcppenmcnhkdhaaDoor
