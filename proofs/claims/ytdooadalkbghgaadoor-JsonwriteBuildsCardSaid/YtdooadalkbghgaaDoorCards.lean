/-
  DERIVED. GIVEN WITH THE SEED: THE CARDS: each row of YtdooadalkbghgaaDoorRows.lean that lists a variable, with what it lists TIED to the program's text (the seventh form; the later family's looks); each row that meets fmt, with fmt's text TOLD by the authors' own Lean function (tested against real Go, not proved from fmt's source: count such statements apart). THE CARD IS WHAT COUNTS. Prove the row's statement (the work); the ties are given (YtdooadalkbghgaaDoorTie.lean); close each card by the builder's one call (the guide's Derived/Test/ToyasCard.lean, 'card_holds'). Laid BY PROGRAM, IN A SANDBOX (cutbox-door.mjs). By AI agents, Wed Nov 11 2026. No macro, syntax, notation, axiom, sorry.
-/
import Derived.Test.YtdooadalkbghgaaDoorRows
import GoSem.ClaimSeven
namespace Go.Proofs.YtdooadalkbghgaaDoor
namespace Rows

/-- THE TIED CARD OF 'feedvaultlaw12.JsonwriteMatchesReference'. -/
def jsonwriteMatchesReferenceCard : Claim7 := { stood := { row := jsonwriteMatchesReferenceRow, standIns := [], harness := (true, "b16260dc59231023c1d109440002821538f7f1ba3f272930688d86a7dc919179"), looks := false }, kinds := [], alts := [], laidByText := true, laidKinds := [.data, .data, .data, .data, .data, .pinned], laidTests := true, laidLooks := .later }
def JsonwriteMatchesReferenceCardSaid : Prop := Claim7.holds Tryd.pinned (.plain (OpenSpec.ofChange jsonwriteMatchesReferenceSpec)) jsonwriteMatchesReferenceCard

/-- THE TIED CARD OF 'feedvaultlaw12.JsonwriteBuilds'. -/
def jsonwriteBuildsCard : Claim7 := { stood := { row := jsonwriteBuildsRow, standIns := [], harness := (true, "b16260dc59231023c1d109440002821538f7f1ba3f272930688d86a7dc919179"), looks := false }, kinds := [], alts := [], laidByText := true, laidKinds := [.data, .data, .data, .data, .data, .pinned], laidTests := true, laidLooks := .later }
def JsonwriteBuildsCardSaid : Prop := Claim7.holds Tryd.pinned (.plain (OpenSpec.ofChange jsonwriteBuildsSpec)) jsonwriteBuildsCard

/-- THE TIED CARD OF 'feedvaultlaw12.JsonwriteIsInjective'. -/
def jsonwriteIsInjectiveCard : Claim7 := { stood := { row := jsonwriteIsInjectiveRow, standIns := [], harness := (true, "b16260dc59231023c1d109440002821538f7f1ba3f272930688d86a7dc919179"), looks := false }, kinds := [], alts := [], laidByText := true, laidKinds := [.data, .data, .data, .data, .data, .pinned], laidTests := true, laidLooks := .later }
def JsonwriteIsInjectiveCardSaid : Prop := Claim7.holds Tryd.pinned (.plain (OpenSpec.ofChange jsonwriteIsInjectiveSpec)) jsonwriteIsInjectiveCard

/-- THE TIED CARD OF 'feedvaultlaw12.JsonwriteDepth'. -/
def jsonwriteDepthCard : Claim7 := { stood := { row := jsonwriteDepthRow, standIns := [], harness := (true, "b16260dc59231023c1d109440002821538f7f1ba3f272930688d86a7dc919179"), looks := false }, kinds := [], alts := [], laidByText := true, laidKinds := [.data, .data, .data, .data, .data, .pinned], laidTests := true, laidLooks := .later }
def JsonwriteDepthCardSaid : Prop := Claim7.holds Tryd.pinned (.plain (OpenSpec.ofChange jsonwriteDepthSpec)) jsonwriteDepthCard

/-- THE SECOND FORM's CARD OF 'feedvaultlaw12.JsonwriteMatchesReference'. -/
def jsonwriteMatchesReferenceUptoCard : Claim7 := { stood := { row := jsonwriteMatchesReferenceUptoRow, standIns := [], harness := (true, "b16260dc59231023c1d109440002821538f7f1ba3f272930688d86a7dc919179"), looks := false }, kinds := [], alts := [], laidByText := true, laidKinds := [.data, .data, .data, .data, .data, .pinned], laidTests := true, laidLooks := .later }
def JsonwriteMatchesReferenceUptoCardSaid : Prop := Claim7.holds Tryd.pinned (.plain (OpenSpec.upto jsonwriteMatchesReferenceSpec)) jsonwriteMatchesReferenceUptoCard

/-- THE SECOND FORM's CARD OF 'feedvaultlaw12.JsonwriteBuilds'. -/
def jsonwriteBuildsUptoCard : Claim7 := { stood := { row := jsonwriteBuildsUptoRow, standIns := [], harness := (true, "b16260dc59231023c1d109440002821538f7f1ba3f272930688d86a7dc919179"), looks := false }, kinds := [], alts := [], laidByText := true, laidKinds := [.data, .data, .data, .data, .data, .pinned], laidTests := true, laidLooks := .later }
def JsonwriteBuildsUptoCardSaid : Prop := Claim7.holds Tryd.pinned (.plain (OpenSpec.upto jsonwriteBuildsSpec)) jsonwriteBuildsUptoCard

/-- THE SECOND FORM's CARD OF 'feedvaultlaw12.JsonwriteIsInjective'. -/
def jsonwriteIsInjectiveUptoCard : Claim7 := { stood := { row := jsonwriteIsInjectiveUptoRow, standIns := [], harness := (true, "b16260dc59231023c1d109440002821538f7f1ba3f272930688d86a7dc919179"), looks := false }, kinds := [], alts := [], laidByText := true, laidKinds := [.data, .data, .data, .data, .data, .pinned], laidTests := true, laidLooks := .later }
def JsonwriteIsInjectiveUptoCardSaid : Prop := Claim7.holds Tryd.pinned (.plain (OpenSpec.upto jsonwriteIsInjectiveSpec)) jsonwriteIsInjectiveUptoCard

/-- THE SECOND FORM's CARD OF 'feedvaultlaw12.JsonwriteDepth'. -/
def jsonwriteDepthUptoCard : Claim7 := { stood := { row := jsonwriteDepthUptoRow, standIns := [], harness := (true, "b16260dc59231023c1d109440002821538f7f1ba3f272930688d86a7dc919179"), looks := false }, kinds := [], alts := [], laidByText := true, laidKinds := [.data, .data, .data, .data, .data, .pinned], laidTests := true, laidLooks := .later }
def JsonwriteDepthUptoCardSaid : Prop := Claim7.holds Tryd.pinned (.plain (OpenSpec.upto jsonwriteDepthSpec)) jsonwriteDepthUptoCard
end Rows
end Go.Proofs.YtdooadalkbghgaaDoor
