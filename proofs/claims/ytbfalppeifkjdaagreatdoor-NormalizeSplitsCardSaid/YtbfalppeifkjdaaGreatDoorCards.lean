/-
  DERIVED. GIVEN WITH THE SEED: THE CARDS: each row of YtbfalppeifkjdaaGreatDoorRows.lean that lists a variable, with what it lists TIED to the program's text (the seventh form; the later family's looks); each row that meets fmt, with fmt's text TOLD by the authors' own Lean function (tested against real Go, not proved from fmt's source: count such statements apart). THE CARD IS WHAT COUNTS. Prove the row's statement (the work); the ties are given (YtbfalppeifkjdaaGreatDoorTie.lean); close each card by the builder's one call (the guide's Derived/Test/ToyasCard.lean, 'card_holds'). Laid BY PROGRAM, IN A SANDBOX (cutbox-door.mjs). By AI agents, Wed Nov 11 2026. No macro, syntax, notation, axiom, sorry.
-/
import Derived.Test.YtbfalppeifkjdaaGreatDoorRows
import GoSem.ClaimSeven
namespace Go.Proofs.YtbfalppeifkjdaaGreatDoor
namespace Rows

/-- THE TIED CARD OF 'feedvaultlaw14.NormalizeEntryMatchesReference'. -/
def normalizeEntryMatchesReferenceCard : Claim7 := { stood := { row := normalizeEntryMatchesReferenceRow, standIns := [], harness := (true, "7aca9fd3a2d225ce688bedf24fb8709d5c42435ff474f9a57dfea34c44ad0b3a"), looks := false }, kinds := [], alts := [], laidByText := true, laidKinds := [.data, .data, .data, .data, .data, .pinned], laidTests := true, laidLooks := .later }
def NormalizeEntryMatchesReferenceCardSaid : Prop := Claim7.holds Tryz.pinned (.plain (OpenSpec.ofChange normalizeEntryMatchesReferenceSpec)) normalizeEntryMatchesReferenceCard

/-- THE TIED CARD OF 'feedvaultlaw14.NormalizeFeedMatchesReference'. -/
def normalizeFeedMatchesReferenceCard : Claim7 := { stood := { row := normalizeFeedMatchesReferenceRow, standIns := [], harness := (true, "7aca9fd3a2d225ce688bedf24fb8709d5c42435ff474f9a57dfea34c44ad0b3a"), looks := false }, kinds := [], alts := [], laidByText := true, laidKinds := [.data, .data, .data, .data, .data, .pinned], laidTests := true, laidLooks := .later }
def NormalizeFeedMatchesReferenceCardSaid : Prop := Claim7.holds Tryz.pinned (.plain (OpenSpec.ofChange normalizeFeedMatchesReferenceSpec)) normalizeFeedMatchesReferenceCard

/-- THE TIED CARD OF 'feedvaultlaw14.NormalizeArchiveMatchesReference'. -/
def normalizeArchiveMatchesReferenceCard : Claim7 := { stood := { row := normalizeArchiveMatchesReferenceRow, standIns := [], harness := (true, "7aca9fd3a2d225ce688bedf24fb8709d5c42435ff474f9a57dfea34c44ad0b3a"), looks := false }, kinds := [], alts := [], laidByText := true, laidKinds := [.data, .data, .data, .data, .data, .pinned], laidTests := true, laidLooks := .later }
def NormalizeArchiveMatchesReferenceCardSaid : Prop := Claim7.holds Tryz.pinned (.plain (OpenSpec.ofChange normalizeArchiveMatchesReferenceSpec)) normalizeArchiveMatchesReferenceCard

/-- THE TIED CARD OF 'feedvaultlaw14.NormalizeKeepsValid'. -/
def normalizeKeepsValidCard : Claim7 := { stood := { row := normalizeKeepsValidRow, standIns := [], harness := (true, "7aca9fd3a2d225ce688bedf24fb8709d5c42435ff474f9a57dfea34c44ad0b3a"), looks := false }, kinds := [], alts := [], laidByText := true, laidKinds := [.data, .data, .data, .data, .data, .pinned], laidTests := true, laidLooks := .later }
def NormalizeKeepsValidCardSaid : Prop := Claim7.holds Tryz.pinned (.plain (OpenSpec.ofChange normalizeKeepsValidSpec)) normalizeKeepsValidCard

/-- THE TIED CARD OF 'feedvaultlaw14.NormalizeIgnoresOrder'. -/
def normalizeIgnoresOrderCard : Claim7 := { stood := { row := normalizeIgnoresOrderRow, standIns := [], harness := (true, "7aca9fd3a2d225ce688bedf24fb8709d5c42435ff474f9a57dfea34c44ad0b3a"), looks := false }, kinds := [], alts := [], laidByText := true, laidKinds := [.data, .data, .data, .data, .data, .pinned], laidTests := true, laidLooks := .later }
def NormalizeIgnoresOrderCardSaid : Prop := Claim7.holds Tryz.pinned (.plain (OpenSpec.ofChange normalizeIgnoresOrderSpec)) normalizeIgnoresOrderCard

/-- THE TIED CARD OF 'feedvaultlaw14.NormalizeSplits'. -/
def normalizeSplitsCard : Claim7 := { stood := { row := normalizeSplitsRow, standIns := [], harness := (true, "7aca9fd3a2d225ce688bedf24fb8709d5c42435ff474f9a57dfea34c44ad0b3a"), looks := false }, kinds := [], alts := [], laidByText := true, laidKinds := [.data, .data, .data, .data, .data, .pinned], laidTests := true, laidLooks := .later }
def NormalizeSplitsCardSaid : Prop := Claim7.holds Tryz.pinned (.plain (OpenSpec.ofChange normalizeSplitsSpec)) normalizeSplitsCard

/-- THE TIED CARD OF 'feedvaultlaw14.NormalizeIsolated'. -/
def normalizeIsolatedCard : Claim7 := { stood := { row := normalizeIsolatedRow, standIns := [], harness := (true, "7aca9fd3a2d225ce688bedf24fb8709d5c42435ff474f9a57dfea34c44ad0b3a"), looks := false }, kinds := [], alts := [], laidByText := true, laidKinds := [.data, .data, .data, .data, .data, .pinned], laidTests := true, laidLooks := .later }
def NormalizeIsolatedCardSaid : Prop := Claim7.holds Tryz.pinned (.plain (OpenSpec.ofChange normalizeIsolatedSpec)) normalizeIsolatedCard

/-- THE SECOND FORM's CARD OF 'feedvaultlaw14.NormalizeEntryMatchesReference'. -/
def normalizeEntryMatchesReferenceUptoCard : Claim7 := { stood := { row := normalizeEntryMatchesReferenceUptoRow, standIns := [], harness := (true, "7aca9fd3a2d225ce688bedf24fb8709d5c42435ff474f9a57dfea34c44ad0b3a"), looks := false }, kinds := [], alts := [], laidByText := true, laidKinds := [.data, .data, .data, .data, .data, .pinned], laidTests := true, laidLooks := .later }
def NormalizeEntryMatchesReferenceUptoCardSaid : Prop := Claim7.holds Tryz.pinned (.plain (OpenSpec.upto normalizeEntryMatchesReferenceSpec)) normalizeEntryMatchesReferenceUptoCard

/-- THE SECOND FORM's CARD OF 'feedvaultlaw14.NormalizeFeedMatchesReference'. -/
def normalizeFeedMatchesReferenceUptoCard : Claim7 := { stood := { row := normalizeFeedMatchesReferenceUptoRow, standIns := [], harness := (true, "7aca9fd3a2d225ce688bedf24fb8709d5c42435ff474f9a57dfea34c44ad0b3a"), looks := false }, kinds := [], alts := [], laidByText := true, laidKinds := [.data, .data, .data, .data, .data, .pinned], laidTests := true, laidLooks := .later }
def NormalizeFeedMatchesReferenceUptoCardSaid : Prop := Claim7.holds Tryz.pinned (.plain (OpenSpec.upto normalizeFeedMatchesReferenceSpec)) normalizeFeedMatchesReferenceUptoCard

/-- THE SECOND FORM's CARD OF 'feedvaultlaw14.NormalizeArchiveMatchesReference'. -/
def normalizeArchiveMatchesReferenceUptoCard : Claim7 := { stood := { row := normalizeArchiveMatchesReferenceUptoRow, standIns := [], harness := (true, "7aca9fd3a2d225ce688bedf24fb8709d5c42435ff474f9a57dfea34c44ad0b3a"), looks := false }, kinds := [], alts := [], laidByText := true, laidKinds := [.data, .data, .data, .data, .data, .pinned], laidTests := true, laidLooks := .later }
def NormalizeArchiveMatchesReferenceUptoCardSaid : Prop := Claim7.holds Tryz.pinned (.plain (OpenSpec.upto normalizeArchiveMatchesReferenceSpec)) normalizeArchiveMatchesReferenceUptoCard

/-- THE SECOND FORM's CARD OF 'feedvaultlaw14.NormalizeKeepsValid'. -/
def normalizeKeepsValidUptoCard : Claim7 := { stood := { row := normalizeKeepsValidUptoRow, standIns := [], harness := (true, "7aca9fd3a2d225ce688bedf24fb8709d5c42435ff474f9a57dfea34c44ad0b3a"), looks := false }, kinds := [], alts := [], laidByText := true, laidKinds := [.data, .data, .data, .data, .data, .pinned], laidTests := true, laidLooks := .later }
def NormalizeKeepsValidUptoCardSaid : Prop := Claim7.holds Tryz.pinned (.plain (OpenSpec.upto normalizeKeepsValidSpec)) normalizeKeepsValidUptoCard

/-- THE SECOND FORM's CARD OF 'feedvaultlaw14.NormalizeIgnoresOrder'. -/
def normalizeIgnoresOrderUptoCard : Claim7 := { stood := { row := normalizeIgnoresOrderUptoRow, standIns := [], harness := (true, "7aca9fd3a2d225ce688bedf24fb8709d5c42435ff474f9a57dfea34c44ad0b3a"), looks := false }, kinds := [], alts := [], laidByText := true, laidKinds := [.data, .data, .data, .data, .data, .pinned], laidTests := true, laidLooks := .later }
def NormalizeIgnoresOrderUptoCardSaid : Prop := Claim7.holds Tryz.pinned (.plain (OpenSpec.upto normalizeIgnoresOrderSpec)) normalizeIgnoresOrderUptoCard

/-- THE SECOND FORM's CARD OF 'feedvaultlaw14.NormalizeSplits'. -/
def normalizeSplitsUptoCard : Claim7 := { stood := { row := normalizeSplitsUptoRow, standIns := [], harness := (true, "7aca9fd3a2d225ce688bedf24fb8709d5c42435ff474f9a57dfea34c44ad0b3a"), looks := false }, kinds := [], alts := [], laidByText := true, laidKinds := [.data, .data, .data, .data, .data, .pinned], laidTests := true, laidLooks := .later }
def NormalizeSplitsUptoCardSaid : Prop := Claim7.holds Tryz.pinned (.plain (OpenSpec.upto normalizeSplitsSpec)) normalizeSplitsUptoCard

/-- THE SECOND FORM's CARD OF 'feedvaultlaw14.NormalizeIsolated'. -/
def normalizeIsolatedUptoCard : Claim7 := { stood := { row := normalizeIsolatedUptoRow, standIns := [], harness := (true, "7aca9fd3a2d225ce688bedf24fb8709d5c42435ff474f9a57dfea34c44ad0b3a"), looks := false }, kinds := [], alts := [], laidByText := true, laidKinds := [.data, .data, .data, .data, .data, .pinned], laidTests := true, laidLooks := .later }
def NormalizeIsolatedUptoCardSaid : Prop := Claim7.holds Tryz.pinned (.plain (OpenSpec.upto normalizeIsolatedSpec)) normalizeIsolatedUptoCard
end Rows
end Go.Proofs.YtbfalppeifkjdaaGreatDoor
