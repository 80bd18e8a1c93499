/-
  DERIVED. GIVEN WITH THE SEED: THE CARDS: each row of YtggfblodjanfkaaGreatDoorRows.lean that lists a variable, with what it lists TIED to the program's text (the seventh form; the later family's looks); each row that meets fmt, with fmt's text TOLD by the authors' own Lean function (tested against real Go, not proved from fmt's source: count such statements apart). THE CARD IS WHAT COUNTS. Prove the row's statement (the work); the ties are given (YtggfblodjanfkaaGreatDoorTie.lean); close each card by the builder's one call (the guide's Derived/Test/ToyasCard.lean, 'card_holds'). Laid BY PROGRAM, IN A SANDBOX (cutbox-door.mjs). By AI agents, Wed Nov 11 2026. No macro, syntax, notation, axiom, sorry.
-/
import Derived.Test.YtggfblodjanfkaaGreatDoorRows
import GoSem.ClaimSeven
namespace Go.Proofs.YtggfblodjanfkaaGreatDoor
namespace Rows

/-- THE TIED CARD OF 'feedvaultlaw13.ModelChecksMatchReference'. -/
def modelChecksMatchReferenceCard : Claim7 := { stood := { row := modelChecksMatchReferenceRow, standIns := [], harness := (true, "3dd556a709e3ce4d52ad55a705fee419a881ebc749be1e7c27800851a2c350e1"), looks := false }, kinds := [], alts := [], laidByText := true, laidKinds := [.data, .data, .data, .data, .data, .pinned], laidTests := true, laidLooks := .later }
def ModelChecksMatchReferenceCardSaid : Prop := Claim7.holds Tryz.pinned (.plain (OpenSpec.ofChange modelChecksMatchReferenceSpec)) modelChecksMatchReferenceCard

/-- THE TIED CARD OF 'feedvaultlaw13.ModelLaterFeed'. -/
def modelLaterFeedCard : Claim7 := { stood := { row := modelLaterFeedRow, standIns := [], harness := (true, "3dd556a709e3ce4d52ad55a705fee419a881ebc749be1e7c27800851a2c350e1"), looks := false }, kinds := [], alts := [], laidByText := true, laidKinds := [.data, .data, .data, .data, .data, .pinned], laidTests := true, laidLooks := .later }
def ModelLaterFeedCardSaid : Prop := Claim7.holds Tryz.pinned (.plain (OpenSpec.ofChange modelLaterFeedSpec)) modelLaterFeedCard

/-- THE SECOND FORM's CARD OF 'feedvaultlaw13.ModelChecksMatchReference'. -/
def modelChecksMatchReferenceUptoCard : Claim7 := { stood := { row := modelChecksMatchReferenceUptoRow, standIns := [], harness := (true, "3dd556a709e3ce4d52ad55a705fee419a881ebc749be1e7c27800851a2c350e1"), looks := false }, kinds := [], alts := [], laidByText := true, laidKinds := [.data, .data, .data, .data, .data, .pinned], laidTests := true, laidLooks := .later }
def ModelChecksMatchReferenceUptoCardSaid : Prop := Claim7.holds Tryz.pinned (.plain (OpenSpec.upto modelChecksMatchReferenceSpec)) modelChecksMatchReferenceUptoCard

/-- THE SECOND FORM's CARD OF 'feedvaultlaw13.ModelLaterFeed'. -/
def modelLaterFeedUptoCard : Claim7 := { stood := { row := modelLaterFeedUptoRow, standIns := [], harness := (true, "3dd556a709e3ce4d52ad55a705fee419a881ebc749be1e7c27800851a2c350e1"), looks := false }, kinds := [], alts := [], laidByText := true, laidKinds := [.data, .data, .data, .data, .data, .pinned], laidTests := true, laidLooks := .later }
def ModelLaterFeedUptoCardSaid : Prop := Claim7.holds Tryz.pinned (.plain (OpenSpec.upto modelLaterFeedSpec)) modelLaterFeedUptoCard
end Rows
end Go.Proofs.YtggfblodjanfkaaGreatDoor
