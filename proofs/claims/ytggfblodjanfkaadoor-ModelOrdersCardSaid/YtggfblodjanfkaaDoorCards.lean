/-
  DERIVED. GIVEN WITH THE SEED: THE CARDS: each row of YtggfblodjanfkaaDoorRows.lean that lists a variable, with what it lists TIED to the program's text (the seventh form; the later family's looks); each row that meets fmt, with fmt's text TOLD by the authors' own Lean function (tested against real Go, not proved from fmt's source: count such statements apart). THE CARD IS WHAT COUNTS. Prove the row's statement (the work); the ties are given (YtggfblodjanfkaaDoorTie.lean); close each card by the builder's one call (the guide's Derived/Test/ToyasCard.lean, 'card_holds'). Laid BY PROGRAM, IN A SANDBOX (cutbox-door.mjs). By AI agents, Wed Nov 11 2026. No macro, syntax, notation, axiom, sorry.
-/
import Derived.Test.YtggfblodjanfkaaDoorRows
import GoSem.ClaimSeven
namespace Go.Proofs.YtggfblodjanfkaaDoor
namespace Rows

/-- THE TIED CARD OF 'feedvaultlaw13.ModelComparesMatchReference'. -/
def modelComparesMatchReferenceCard : Claim7 := { stood := { row := modelComparesMatchReferenceRow, standIns := [], harness := (true, "951af508a85265867be9b77fbaf583039f3fe22a442d15b44057e9e84e71f317"), looks := false }, kinds := [], alts := [], laidByText := true, laidKinds := [.data, .data, .data, .data, .data, .pinned], laidTests := true, laidLooks := .later }
def ModelComparesMatchReferenceCardSaid : Prop := Claim7.holds Tryd.pinned (.plain (OpenSpec.ofChange modelComparesMatchReferenceSpec)) modelComparesMatchReferenceCard

/-- THE TIED CARD OF 'feedvaultlaw13.ModelOrders'. -/
def modelOrdersCard : Claim7 := { stood := { row := modelOrdersRow, standIns := [], harness := (true, "951af508a85265867be9b77fbaf583039f3fe22a442d15b44057e9e84e71f317"), looks := false }, kinds := [], alts := [], laidByText := true, laidKinds := [.data, .data, .data, .data, .data, .pinned], laidTests := true, laidLooks := .later }
def ModelOrdersCardSaid : Prop := Claim7.holds Tryd.pinned (.plain (OpenSpec.ofChange modelOrdersSpec)) modelOrdersCard

/-- THE TIED CARD OF 'feedvaultlaw13.ModelKeys'. -/
def modelKeysCard : Claim7 := { stood := { row := modelKeysRow, standIns := [], harness := (true, "951af508a85265867be9b77fbaf583039f3fe22a442d15b44057e9e84e71f317"), looks := false }, kinds := [], alts := [], laidByText := true, laidKinds := [.data, .data, .data, .data, .data, .pinned], laidTests := true, laidLooks := .later }
def ModelKeysCardSaid : Prop := Claim7.holds Tryd.pinned (.plain (OpenSpec.ofChange modelKeysSpec)) modelKeysCard

/-- THE TIED CARD OF 'feedvaultlaw13.ModelLaterEntry'. -/
def modelLaterEntryCard : Claim7 := { stood := { row := modelLaterEntryRow, standIns := [], harness := (true, "951af508a85265867be9b77fbaf583039f3fe22a442d15b44057e9e84e71f317"), looks := false }, kinds := [], alts := [], laidByText := true, laidKinds := [.data, .data, .data, .data, .data, .pinned], laidTests := true, laidLooks := .later }
def ModelLaterEntryCardSaid : Prop := Claim7.holds Tryd.pinned (.plain (OpenSpec.ofChange modelLaterEntrySpec)) modelLaterEntryCard

/-- THE SECOND FORM's CARD OF 'feedvaultlaw13.ModelComparesMatchReference'. -/
def modelComparesMatchReferenceUptoCard : Claim7 := { stood := { row := modelComparesMatchReferenceUptoRow, standIns := [], harness := (true, "951af508a85265867be9b77fbaf583039f3fe22a442d15b44057e9e84e71f317"), looks := false }, kinds := [], alts := [], laidByText := true, laidKinds := [.data, .data, .data, .data, .data, .pinned], laidTests := true, laidLooks := .later }
def ModelComparesMatchReferenceUptoCardSaid : Prop := Claim7.holds Tryd.pinned (.plain (OpenSpec.upto modelComparesMatchReferenceSpec)) modelComparesMatchReferenceUptoCard

/-- THE SECOND FORM's CARD OF 'feedvaultlaw13.ModelOrders'. -/
def modelOrdersUptoCard : Claim7 := { stood := { row := modelOrdersUptoRow, standIns := [], harness := (true, "951af508a85265867be9b77fbaf583039f3fe22a442d15b44057e9e84e71f317"), looks := false }, kinds := [], alts := [], laidByText := true, laidKinds := [.data, .data, .data, .data, .data, .pinned], laidTests := true, laidLooks := .later }
def ModelOrdersUptoCardSaid : Prop := Claim7.holds Tryd.pinned (.plain (OpenSpec.upto modelOrdersSpec)) modelOrdersUptoCard

/-- THE SECOND FORM's CARD OF 'feedvaultlaw13.ModelKeys'. -/
def modelKeysUptoCard : Claim7 := { stood := { row := modelKeysUptoRow, standIns := [], harness := (true, "951af508a85265867be9b77fbaf583039f3fe22a442d15b44057e9e84e71f317"), looks := false }, kinds := [], alts := [], laidByText := true, laidKinds := [.data, .data, .data, .data, .data, .pinned], laidTests := true, laidLooks := .later }
def ModelKeysUptoCardSaid : Prop := Claim7.holds Tryd.pinned (.plain (OpenSpec.upto modelKeysSpec)) modelKeysUptoCard

/-- THE SECOND FORM's CARD OF 'feedvaultlaw13.ModelLaterEntry'. -/
def modelLaterEntryUptoCard : Claim7 := { stood := { row := modelLaterEntryUptoRow, standIns := [], harness := (true, "951af508a85265867be9b77fbaf583039f3fe22a442d15b44057e9e84e71f317"), looks := false }, kinds := [], alts := [], laidByText := true, laidKinds := [.data, .data, .data, .data, .data, .pinned], laidTests := true, laidLooks := .later }
def ModelLaterEntryUptoCardSaid : Prop := Claim7.holds Tryd.pinned (.plain (OpenSpec.upto modelLaterEntrySpec)) modelLaterEntryUptoCard
end Rows
end Go.Proofs.YtggfblodjanfkaaDoor
