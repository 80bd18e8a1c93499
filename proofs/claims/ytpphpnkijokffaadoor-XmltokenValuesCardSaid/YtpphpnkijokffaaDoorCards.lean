/-
  DERIVED. GIVEN WITH THE SEED: THE CARDS: each row of YtpphpnkijokffaaDoorRows.lean that lists a variable, with what it lists TIED to the program's text (the seventh form; the later family's looks); each row that meets fmt, with fmt's text TOLD by the authors' own Lean function (tested against real Go, not proved from fmt's source: count such statements apart). THE CARD IS WHAT COUNTS. Prove the row's statement (the work); the ties are given (YtpphpnkijokffaaDoorTie.lean); close each card by the builder's one call (the guide's Derived/Test/ToyasCard.lean, 'card_holds'). Laid BY PROGRAM, IN A SANDBOX (cutbox-door.mjs). By AI agents, Wed Nov 11 2026. No macro, syntax, notation, axiom, sorry.
-/
import Derived.Test.YtpphpnkijokffaaDoorRows
import GoSem.ClaimSeven
namespace Go.Proofs.YtpphpnkijokffaaDoor
namespace Rows

/-- THE TIED CARD OF 'feedvaultlaw06.XmltokenOffsets'. -/
def xmltokenOffsetsCard : Claim7 := { stood := { row := xmltokenOffsetsRow, standIns := [], harness := (true, "1d8426dbb384e19f0a7ef5bd8b02ebd6d471b5ad7b92d40afdd5f07102a9a52e"), looks := false }, kinds := [], alts := [], laidByText := true, laidKinds := [.data, .data, .data, .pinned], laidTests := true, laidLooks := .later }
def XmltokenOffsetsCardSaid : Prop := Claim7.holds Tryd.pinned (.plain (OpenSpec.ofChange xmltokenOffsetsSpec)) xmltokenOffsetsCard

/-- THE TIED CARD OF 'feedvaultlaw06.XmltokenText'. -/
def xmltokenTextCard : Claim7 := { stood := { row := xmltokenTextRow, standIns := [], harness := (true, "1d8426dbb384e19f0a7ef5bd8b02ebd6d471b5ad7b92d40afdd5f07102a9a52e"), looks := false }, kinds := [], alts := [], laidByText := true, laidKinds := [.data, .data, .data, .pinned], laidTests := true, laidLooks := .later }
def XmltokenTextCardSaid : Prop := Claim7.holds Tryd.pinned (.plain (OpenSpec.ofChange xmltokenTextSpec)) xmltokenTextCard

/-- THE TIED CARD OF 'feedvaultlaw06.XmltokenValues'. -/
def xmltokenValuesCard : Claim7 := { stood := { row := xmltokenValuesRow, standIns := [], harness := (true, "1d8426dbb384e19f0a7ef5bd8b02ebd6d471b5ad7b92d40afdd5f07102a9a52e"), looks := false }, kinds := [], alts := [], laidByText := true, laidKinds := [.data, .data, .data, .pinned], laidTests := true, laidLooks := .later }
def XmltokenValuesCardSaid : Prop := Claim7.holds Tryd.pinned (.plain (OpenSpec.ofChange xmltokenValuesSpec)) xmltokenValuesCard

/-- THE SECOND FORM's CARD OF 'feedvaultlaw06.XmltokenOffsets'. -/
def xmltokenOffsetsUptoCard : Claim7 := { stood := { row := xmltokenOffsetsUptoRow, standIns := [], harness := (true, "1d8426dbb384e19f0a7ef5bd8b02ebd6d471b5ad7b92d40afdd5f07102a9a52e"), looks := false }, kinds := [], alts := [], laidByText := true, laidKinds := [.data, .data, .data, .pinned], laidTests := true, laidLooks := .later }
def XmltokenOffsetsUptoCardSaid : Prop := Claim7.holds Tryd.pinned (.plain (OpenSpec.upto xmltokenOffsetsSpec)) xmltokenOffsetsUptoCard

/-- THE SECOND FORM's CARD OF 'feedvaultlaw06.XmltokenText'. -/
def xmltokenTextUptoCard : Claim7 := { stood := { row := xmltokenTextUptoRow, standIns := [], harness := (true, "1d8426dbb384e19f0a7ef5bd8b02ebd6d471b5ad7b92d40afdd5f07102a9a52e"), looks := false }, kinds := [], alts := [], laidByText := true, laidKinds := [.data, .data, .data, .pinned], laidTests := true, laidLooks := .later }
def XmltokenTextUptoCardSaid : Prop := Claim7.holds Tryd.pinned (.plain (OpenSpec.upto xmltokenTextSpec)) xmltokenTextUptoCard

/-- THE SECOND FORM's CARD OF 'feedvaultlaw06.XmltokenValues'. -/
def xmltokenValuesUptoCard : Claim7 := { stood := { row := xmltokenValuesUptoRow, standIns := [], harness := (true, "1d8426dbb384e19f0a7ef5bd8b02ebd6d471b5ad7b92d40afdd5f07102a9a52e"), looks := false }, kinds := [], alts := [], laidByText := true, laidKinds := [.data, .data, .data, .pinned], laidTests := true, laidLooks := .later }
def XmltokenValuesUptoCardSaid : Prop := Claim7.holds Tryd.pinned (.plain (OpenSpec.upto xmltokenValuesSpec)) xmltokenValuesUptoCard
end Rows
end Go.Proofs.YtpphpnkijokffaaDoor
