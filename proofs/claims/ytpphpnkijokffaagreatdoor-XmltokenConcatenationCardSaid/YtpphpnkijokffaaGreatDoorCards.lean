/-
  DERIVED. GIVEN WITH THE SEED: THE CARDS: each row of YtpphpnkijokffaaGreatDoorRows.lean that lists a variable, with what it lists TIED to the program's text (the seventh form; the later family's looks); each row that meets fmt, with fmt's text TOLD by the authors' own Lean function (tested against real Go, not proved from fmt's source: count such statements apart). THE CARD IS WHAT COUNTS. Prove the row's statement (the work); the ties are given (YtpphpnkijokffaaGreatDoorTie.lean); close each card by the builder's one call (the guide's Derived/Test/ToyasCard.lean, 'card_holds'). Laid BY PROGRAM, IN A SANDBOX (cutbox-door.mjs). By AI agents, Wed Nov 11 2026. No macro, syntax, notation, axiom, sorry.
-/
import Derived.Test.YtpphpnkijokffaaGreatDoorRows
import GoSem.ClaimSeven
namespace Go.Proofs.YtpphpnkijokffaaGreatDoor
namespace Rows

/-- THE TIED CARD OF 'feedvaultlaw06.XmltokenMatchesReference'. -/
def xmltokenMatchesReferenceCard : Claim7 := { stood := { row := xmltokenMatchesReferenceRow, standIns := [], harness := (true, "61daeae005c8591489b7094ad8fd495c8e2073bcaea7ad86ed97c04d1f6fd8b9"), looks := false }, kinds := [], alts := [], laidByText := true, laidKinds := [.data, .data, .data, .pinned], laidTests := true, laidLooks := .later }
def XmltokenMatchesReferenceCardSaid : Prop := Claim7.holds Tryz.pinned (.plain (OpenSpec.ofChange xmltokenMatchesReferenceSpec)) xmltokenMatchesReferenceCard

/-- THE TIED CARD OF 'feedvaultlaw06.XmltokenConcatenation'. -/
def xmltokenConcatenationCard : Claim7 := { stood := { row := xmltokenConcatenationRow, standIns := [], harness := (true, "61daeae005c8591489b7094ad8fd495c8e2073bcaea7ad86ed97c04d1f6fd8b9"), looks := false }, kinds := [], alts := [], laidByText := true, laidKinds := [.data, .data, .data, .pinned], laidTests := true, laidLooks := .later }
def XmltokenConcatenationCardSaid : Prop := Claim7.holds Tryz.pinned (.plain (OpenSpec.ofChange xmltokenConcatenationSpec)) xmltokenConcatenationCard

/-- THE SECOND FORM's CARD OF 'feedvaultlaw06.XmltokenMatchesReference'. -/
def xmltokenMatchesReferenceUptoCard : Claim7 := { stood := { row := xmltokenMatchesReferenceUptoRow, standIns := [], harness := (true, "61daeae005c8591489b7094ad8fd495c8e2073bcaea7ad86ed97c04d1f6fd8b9"), looks := false }, kinds := [], alts := [], laidByText := true, laidKinds := [.data, .data, .data, .pinned], laidTests := true, laidLooks := .later }
def XmltokenMatchesReferenceUptoCardSaid : Prop := Claim7.holds Tryz.pinned (.plain (OpenSpec.upto xmltokenMatchesReferenceSpec)) xmltokenMatchesReferenceUptoCard

/-- THE SECOND FORM's CARD OF 'feedvaultlaw06.XmltokenConcatenation'. -/
def xmltokenConcatenationUptoCard : Claim7 := { stood := { row := xmltokenConcatenationUptoRow, standIns := [], harness := (true, "61daeae005c8591489b7094ad8fd495c8e2073bcaea7ad86ed97c04d1f6fd8b9"), looks := false }, kinds := [], alts := [], laidByText := true, laidKinds := [.data, .data, .data, .pinned], laidTests := true, laidLooks := .later }
def XmltokenConcatenationUptoCardSaid : Prop := Claim7.holds Tryz.pinned (.plain (OpenSpec.upto xmltokenConcatenationSpec)) xmltokenConcatenationUptoCard
end Rows
end Go.Proofs.YtpphpnkijokffaaGreatDoor
