/-
  DERIVED. GIVEN WITH THE SEED: THE CARDS: each row of YtoehcholbcchcaaDoorRows.lean that lists a variable, with what it lists TIED to the program's text (the seventh form; the later family's looks); each row that meets fmt, with fmt's text TOLD by the authors' own Lean function (tested against real Go, not proved from fmt's source: count such statements apart). THE CARD IS WHAT COUNTS. Prove the row's statement (the work); the ties are given (YtoehcholbcchcaaDoorTie.lean); close each card by the builder's one call (the guide's Derived/Test/ToyasCard.lean, 'card_holds'). Laid BY PROGRAM, IN A SANDBOX (cutbox-door.mjs). By AI agents, Wed Nov 11 2026. No macro, syntax, notation, axiom, sorry.
-/
import Derived.Test.YtoehcholbcchcaaDoorRows
import GoSem.ClaimSeven
namespace Go.Proofs.YtoehcholbcchcaaDoor
namespace Rows

/-- THE TIED CARD OF 'feedvaultlaw08.XmlnsSplits'. -/
def xmlnsSplitsCard : Claim7 := { stood := { row := xmlnsSplitsRow, standIns := [], harness := (true, "a181f614d3b07d1abffadf3bdab09b9d8f579abd411d06944019b56d74a5bf79"), looks := false }, kinds := [], alts := [], laidByText := true, laidKinds := [.data, .data, .pinned], laidTests := true, laidLooks := .later }
def XmlnsSplitsCardSaid : Prop := Claim7.holds Tryd.pinned (.plain (OpenSpec.ofChange xmlnsSplitsSpec)) xmlnsSplitsCard

/-- THE TIED CARD OF 'feedvaultlaw08.XmlnsMatchesReference'. -/
def xmlnsMatchesReferenceCard : Claim7 := { stood := { row := xmlnsMatchesReferenceRow, standIns := [], harness := (true, "a181f614d3b07d1abffadf3bdab09b9d8f579abd411d06944019b56d74a5bf79"), looks := false }, kinds := [], alts := [], laidByText := true, laidKinds := [.data, .data, .pinned], laidTests := true, laidLooks := .later }
def XmlnsMatchesReferenceCardSaid : Prop := Claim7.holds Tryd.pinned (.plain (OpenSpec.ofChange xmlnsMatchesReferenceSpec)) xmlnsMatchesReferenceCard

/-- THE TIED CARD OF 'feedvaultlaw08.XmlnsScopes'. -/
def xmlnsScopesCard : Claim7 := { stood := { row := xmlnsScopesRow, standIns := [], harness := (true, "a181f614d3b07d1abffadf3bdab09b9d8f579abd411d06944019b56d74a5bf79"), looks := false }, kinds := [], alts := [], laidByText := true, laidKinds := [.data, .data, .pinned], laidTests := true, laidLooks := .later }
def XmlnsScopesCardSaid : Prop := Claim7.holds Tryd.pinned (.plain (OpenSpec.ofChange xmlnsScopesSpec)) xmlnsScopesCard

/-- THE TIED CARD OF 'feedvaultlaw08.XmlnsDuplicates'. -/
def xmlnsDuplicatesCard : Claim7 := { stood := { row := xmlnsDuplicatesRow, standIns := [], harness := (true, "a181f614d3b07d1abffadf3bdab09b9d8f579abd411d06944019b56d74a5bf79"), looks := false }, kinds := [], alts := [], laidByText := true, laidKinds := [.data, .data, .pinned], laidTests := true, laidLooks := .later }
def XmlnsDuplicatesCardSaid : Prop := Claim7.holds Tryd.pinned (.plain (OpenSpec.ofChange xmlnsDuplicatesSpec)) xmlnsDuplicatesCard

/-- THE TIED CARD OF 'feedvaultlaw08.XmlnsIsolated'. -/
def xmlnsIsolatedCard : Claim7 := { stood := { row := xmlnsIsolatedRow, standIns := [], harness := (true, "a181f614d3b07d1abffadf3bdab09b9d8f579abd411d06944019b56d74a5bf79"), looks := false }, kinds := [], alts := [], laidByText := true, laidKinds := [.data, .data, .pinned], laidTests := true, laidLooks := .later }
def XmlnsIsolatedCardSaid : Prop := Claim7.holds Tryd.pinned (.plain (OpenSpec.ofChange xmlnsIsolatedSpec)) xmlnsIsolatedCard

/-- THE TIED CARD OF 'feedvaultlaw08.XmlnsChildren'. -/
def xmlnsChildrenCard : Claim7 := { stood := { row := xmlnsChildrenRow, standIns := [], harness := (true, "a181f614d3b07d1abffadf3bdab09b9d8f579abd411d06944019b56d74a5bf79"), looks := false }, kinds := [], alts := [], laidByText := true, laidKinds := [.data, .data, .pinned], laidTests := true, laidLooks := .later }
def XmlnsChildrenCardSaid : Prop := Claim7.holds Tryd.pinned (.plain (OpenSpec.ofChange xmlnsChildrenSpec)) xmlnsChildrenCard

/-- THE SECOND FORM's CARD OF 'feedvaultlaw08.XmlnsSplits'. -/
def xmlnsSplitsUptoCard : Claim7 := { stood := { row := xmlnsSplitsUptoRow, standIns := [], harness := (true, "a181f614d3b07d1abffadf3bdab09b9d8f579abd411d06944019b56d74a5bf79"), looks := false }, kinds := [], alts := [], laidByText := true, laidKinds := [.data, .data, .pinned], laidTests := true, laidLooks := .later }
def XmlnsSplitsUptoCardSaid : Prop := Claim7.holds Tryd.pinned (.plain (OpenSpec.upto xmlnsSplitsSpec)) xmlnsSplitsUptoCard

/-- THE SECOND FORM's CARD OF 'feedvaultlaw08.XmlnsMatchesReference'. -/
def xmlnsMatchesReferenceUptoCard : Claim7 := { stood := { row := xmlnsMatchesReferenceUptoRow, standIns := [], harness := (true, "a181f614d3b07d1abffadf3bdab09b9d8f579abd411d06944019b56d74a5bf79"), looks := false }, kinds := [], alts := [], laidByText := true, laidKinds := [.data, .data, .pinned], laidTests := true, laidLooks := .later }
def XmlnsMatchesReferenceUptoCardSaid : Prop := Claim7.holds Tryd.pinned (.plain (OpenSpec.upto xmlnsMatchesReferenceSpec)) xmlnsMatchesReferenceUptoCard

/-- THE SECOND FORM's CARD OF 'feedvaultlaw08.XmlnsScopes'. -/
def xmlnsScopesUptoCard : Claim7 := { stood := { row := xmlnsScopesUptoRow, standIns := [], harness := (true, "a181f614d3b07d1abffadf3bdab09b9d8f579abd411d06944019b56d74a5bf79"), looks := false }, kinds := [], alts := [], laidByText := true, laidKinds := [.data, .data, .pinned], laidTests := true, laidLooks := .later }
def XmlnsScopesUptoCardSaid : Prop := Claim7.holds Tryd.pinned (.plain (OpenSpec.upto xmlnsScopesSpec)) xmlnsScopesUptoCard

/-- THE SECOND FORM's CARD OF 'feedvaultlaw08.XmlnsDuplicates'. -/
def xmlnsDuplicatesUptoCard : Claim7 := { stood := { row := xmlnsDuplicatesUptoRow, standIns := [], harness := (true, "a181f614d3b07d1abffadf3bdab09b9d8f579abd411d06944019b56d74a5bf79"), looks := false }, kinds := [], alts := [], laidByText := true, laidKinds := [.data, .data, .pinned], laidTests := true, laidLooks := .later }
def XmlnsDuplicatesUptoCardSaid : Prop := Claim7.holds Tryd.pinned (.plain (OpenSpec.upto xmlnsDuplicatesSpec)) xmlnsDuplicatesUptoCard

/-- THE SECOND FORM's CARD OF 'feedvaultlaw08.XmlnsIsolated'. -/
def xmlnsIsolatedUptoCard : Claim7 := { stood := { row := xmlnsIsolatedUptoRow, standIns := [], harness := (true, "a181f614d3b07d1abffadf3bdab09b9d8f579abd411d06944019b56d74a5bf79"), looks := false }, kinds := [], alts := [], laidByText := true, laidKinds := [.data, .data, .pinned], laidTests := true, laidLooks := .later }
def XmlnsIsolatedUptoCardSaid : Prop := Claim7.holds Tryd.pinned (.plain (OpenSpec.upto xmlnsIsolatedSpec)) xmlnsIsolatedUptoCard

/-- THE SECOND FORM's CARD OF 'feedvaultlaw08.XmlnsChildren'. -/
def xmlnsChildrenUptoCard : Claim7 := { stood := { row := xmlnsChildrenUptoRow, standIns := [], harness := (true, "a181f614d3b07d1abffadf3bdab09b9d8f579abd411d06944019b56d74a5bf79"), looks := false }, kinds := [], alts := [], laidByText := true, laidKinds := [.data, .data, .pinned], laidTests := true, laidLooks := .later }
def XmlnsChildrenUptoCardSaid : Prop := Claim7.holds Tryd.pinned (.plain (OpenSpec.upto xmlnsChildrenSpec)) xmlnsChildrenUptoCard
end Rows
end Go.Proofs.YtoehcholbcchcaaDoor
