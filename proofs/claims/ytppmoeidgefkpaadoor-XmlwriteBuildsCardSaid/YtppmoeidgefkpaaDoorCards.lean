/-
  DERIVED. GIVEN WITH THE SEED: THE CARDS: each row of YtppmoeidgefkpaaDoorRows.lean that lists a variable, with what it lists TIED to the program's text (the seventh form; the later family's looks); each row that meets fmt, with fmt's text TOLD by the authors' own Lean function (tested against real Go, not proved from fmt's source: count such statements apart). THE CARD IS WHAT COUNTS. Prove the row's statement (the work); the ties are given (YtppmoeidgefkpaaDoorTie.lean); close each card by the builder's one call (the guide's Derived/Test/ToyasCard.lean, 'card_holds'). Laid BY PROGRAM, IN A SANDBOX (cutbox-door.mjs). By AI agents, Wed Nov 11 2026. No macro, syntax, notation, axiom, sorry.
-/
import Derived.Test.YtppmoeidgefkpaaDoorRows
import GoSem.ClaimSeven
namespace Go.Proofs.YtppmoeidgefkpaaDoor
namespace Rows

/-- THE TIED CARD OF 'feedvaultlaw09.XmlwriteMatchesReference'. -/
def xmlwriteMatchesReferenceCard : Claim7 := { stood := { row := xmlwriteMatchesReferenceRow, standIns := [], harness := (true, "e46bdbdc9c64497437d9a5a3cc6609aed46cc4d0f96115aef592eb20d3765434"), looks := false }, kinds := [], alts := [], laidByText := true, laidKinds := [.data, .data, .pinned], laidTests := true, laidLooks := .later }
def XmlwriteMatchesReferenceCardSaid : Prop := Claim7.holds Tryd.pinned (.plain (OpenSpec.ofChange xmlwriteMatchesReferenceSpec)) xmlwriteMatchesReferenceCard

/-- THE TIED CARD OF 'feedvaultlaw09.XmlwriteBuilds'. -/
def xmlwriteBuildsCard : Claim7 := { stood := { row := xmlwriteBuildsRow, standIns := [], harness := (true, "e46bdbdc9c64497437d9a5a3cc6609aed46cc4d0f96115aef592eb20d3765434"), looks := false }, kinds := [], alts := [], laidByText := true, laidKinds := [.data, .data, .pinned], laidTests := true, laidLooks := .later }
def XmlwriteBuildsCardSaid : Prop := Claim7.holds Tryd.pinned (.plain (OpenSpec.ofChange xmlwriteBuildsSpec)) xmlwriteBuildsCard

/-- THE TIED CARD OF 'feedvaultlaw09.XmlwriteIsInjective'. -/
def xmlwriteIsInjectiveCard : Claim7 := { stood := { row := xmlwriteIsInjectiveRow, standIns := [], harness := (true, "e46bdbdc9c64497437d9a5a3cc6609aed46cc4d0f96115aef592eb20d3765434"), looks := false }, kinds := [], alts := [], laidByText := true, laidKinds := [.data, .data, .pinned], laidTests := true, laidLooks := .later }
def XmlwriteIsInjectiveCardSaid : Prop := Claim7.holds Tryd.pinned (.plain (OpenSpec.ofChange xmlwriteIsInjectiveSpec)) xmlwriteIsInjectiveCard

/-- THE TIED CARD OF 'feedvaultlaw09.XmlwriteDepth'. -/
def xmlwriteDepthCard : Claim7 := { stood := { row := xmlwriteDepthRow, standIns := [], harness := (true, "e46bdbdc9c64497437d9a5a3cc6609aed46cc4d0f96115aef592eb20d3765434"), looks := false }, kinds := [], alts := [], laidByText := true, laidKinds := [.data, .data, .pinned], laidTests := true, laidLooks := .later }
def XmlwriteDepthCardSaid : Prop := Claim7.holds Tryd.pinned (.plain (OpenSpec.ofChange xmlwriteDepthSpec)) xmlwriteDepthCard

/-- THE SECOND FORM's CARD OF 'feedvaultlaw09.XmlwriteMatchesReference'. -/
def xmlwriteMatchesReferenceUptoCard : Claim7 := { stood := { row := xmlwriteMatchesReferenceUptoRow, standIns := [], harness := (true, "e46bdbdc9c64497437d9a5a3cc6609aed46cc4d0f96115aef592eb20d3765434"), looks := false }, kinds := [], alts := [], laidByText := true, laidKinds := [.data, .data, .pinned], laidTests := true, laidLooks := .later }
def XmlwriteMatchesReferenceUptoCardSaid : Prop := Claim7.holds Tryd.pinned (.plain (OpenSpec.upto xmlwriteMatchesReferenceSpec)) xmlwriteMatchesReferenceUptoCard

/-- THE SECOND FORM's CARD OF 'feedvaultlaw09.XmlwriteBuilds'. -/
def xmlwriteBuildsUptoCard : Claim7 := { stood := { row := xmlwriteBuildsUptoRow, standIns := [], harness := (true, "e46bdbdc9c64497437d9a5a3cc6609aed46cc4d0f96115aef592eb20d3765434"), looks := false }, kinds := [], alts := [], laidByText := true, laidKinds := [.data, .data, .pinned], laidTests := true, laidLooks := .later }
def XmlwriteBuildsUptoCardSaid : Prop := Claim7.holds Tryd.pinned (.plain (OpenSpec.upto xmlwriteBuildsSpec)) xmlwriteBuildsUptoCard

/-- THE SECOND FORM's CARD OF 'feedvaultlaw09.XmlwriteIsInjective'. -/
def xmlwriteIsInjectiveUptoCard : Claim7 := { stood := { row := xmlwriteIsInjectiveUptoRow, standIns := [], harness := (true, "e46bdbdc9c64497437d9a5a3cc6609aed46cc4d0f96115aef592eb20d3765434"), looks := false }, kinds := [], alts := [], laidByText := true, laidKinds := [.data, .data, .pinned], laidTests := true, laidLooks := .later }
def XmlwriteIsInjectiveUptoCardSaid : Prop := Claim7.holds Tryd.pinned (.plain (OpenSpec.upto xmlwriteIsInjectiveSpec)) xmlwriteIsInjectiveUptoCard

/-- THE SECOND FORM's CARD OF 'feedvaultlaw09.XmlwriteDepth'. -/
def xmlwriteDepthUptoCard : Claim7 := { stood := { row := xmlwriteDepthUptoRow, standIns := [], harness := (true, "e46bdbdc9c64497437d9a5a3cc6609aed46cc4d0f96115aef592eb20d3765434"), looks := false }, kinds := [], alts := [], laidByText := true, laidKinds := [.data, .data, .pinned], laidTests := true, laidLooks := .later }
def XmlwriteDepthUptoCardSaid : Prop := Claim7.holds Tryd.pinned (.plain (OpenSpec.upto xmlwriteDepthSpec)) xmlwriteDepthUptoCard
end Rows
end Go.Proofs.YtppmoeidgefkpaaDoor
