/-
  DERIVED. GIVEN WITH THE SEED: THE CARDS: each row of YtmpodplijalhmaaDoorRows.lean that lists a variable, with what it lists TIED to the program's text (the seventh form; the later family's looks); each row that meets fmt, with fmt's text TOLD by the authors' own Lean function (tested against real Go, not proved from fmt's source: count such statements apart). THE CARD IS WHAT COUNTS. Prove the row's statement (the work); the ties are given (YtmpodplijalhmaaDoorTie.lean); close each card by the builder's one call (the guide's Derived/Test/ToyasCard.lean, 'card_holds'). Laid BY PROGRAM, IN A SANDBOX (cutbox-door.mjs). By AI agents, Wed Nov 11 2026. No macro, syntax, notation, axiom, sorry.
-/
import Derived.Test.YtmpodplijalhmaaDoorRows
import GoSem.ClaimSeven
namespace Go.Proofs.YtmpodplijalhmaaDoor
namespace Rows

/-- THE TIED CARD OF 'feedvaultlaw02.CivilYears'. -/
def civilYearsCard : Claim7 := { stood := { row := civilYearsRow, standIns := [], harness := (true, "564813c94dfe14381b18b2a3d22cba546f9fc4ac031e5a5970ea516626e04b68"), looks := false }, kinds := [], alts := [], laidByText := true, laidKinds := [.data, .data], laidTests := true, laidLooks := .later }
def CivilYearsCardSaid : Prop := Claim7.holds Tryd.pinned (.plain (OpenSpec.ofChange civilYearsSpec)) civilYearsCard

/-- THE TIED CARD OF 'feedvaultlaw02.CivilDaysMatchReference'. -/
def civilDaysMatchReferenceCard : Claim7 := { stood := { row := civilDaysMatchReferenceRow, standIns := [], harness := (true, "564813c94dfe14381b18b2a3d22cba546f9fc4ac031e5a5970ea516626e04b68"), looks := false }, kinds := [], alts := [], laidByText := true, laidKinds := [.data, .data], laidTests := true, laidLooks := .later }
def CivilDaysMatchReferenceCardSaid : Prop := Claim7.holds Tryd.pinned (.plain (OpenSpec.ofChange civilDaysMatchReferenceSpec)) civilDaysMatchReferenceCard

/-- THE TIED CARD OF 'feedvaultlaw02.CivilDateMatchesReference'. -/
def civilDateMatchesReferenceCard : Claim7 := { stood := { row := civilDateMatchesReferenceRow, standIns := [], harness := (true, "564813c94dfe14381b18b2a3d22cba546f9fc4ac031e5a5970ea516626e04b68"), looks := false }, kinds := [], alts := [], laidByText := true, laidKinds := [.data, .data], laidTests := true, laidLooks := .later }
def CivilDateMatchesReferenceCardSaid : Prop := Claim7.holds Tryd.pinned (.plain (OpenSpec.ofChange civilDateMatchesReferenceSpec)) civilDateMatchesReferenceCard

/-- THE TIED CARD OF 'feedvaultlaw02.CivilNextDay'. -/
def civilNextDayCard : Claim7 := { stood := { row := civilNextDayRow, standIns := [], harness := (true, "564813c94dfe14381b18b2a3d22cba546f9fc4ac031e5a5970ea516626e04b68"), looks := false }, kinds := [], alts := [], laidByText := true, laidKinds := [.data, .data], laidTests := true, laidLooks := .later }
def CivilNextDayCardSaid : Prop := Claim7.holds Tryd.pinned (.plain (OpenSpec.ofChange civilNextDaySpec)) civilNextDayCard

/-- THE TIED CARD OF 'feedvaultlaw02.CivilSeconds'. -/
def civilSecondsCard : Claim7 := { stood := { row := civilSecondsRow, standIns := [], harness := (true, "564813c94dfe14381b18b2a3d22cba546f9fc4ac031e5a5970ea516626e04b68"), looks := false }, kinds := [], alts := [], laidByText := true, laidKinds := [.data, .data], laidTests := true, laidLooks := .later }
def CivilSecondsCardSaid : Prop := Claim7.holds Tryd.pinned (.plain (OpenSpec.ofChange civilSecondsSpec)) civilSecondsCard

/-- THE TIED CARD OF 'feedvaultlaw02.CivilCycle'. -/
def civilCycleCard : Claim7 := { stood := { row := civilCycleRow, standIns := [], harness := (true, "564813c94dfe14381b18b2a3d22cba546f9fc4ac031e5a5970ea516626e04b68"), looks := false }, kinds := [], alts := [], laidByText := true, laidKinds := [.data, .data], laidTests := true, laidLooks := .later }
def CivilCycleCardSaid : Prop := Claim7.holds Tryd.pinned (.plain (OpenSpec.ofChange civilCycleSpec)) civilCycleCard

/-- THE SECOND FORM's CARD OF 'feedvaultlaw02.CivilYears'. -/
def civilYearsUptoCard : Claim7 := { stood := { row := civilYearsUptoRow, standIns := [], harness := (true, "564813c94dfe14381b18b2a3d22cba546f9fc4ac031e5a5970ea516626e04b68"), looks := false }, kinds := [], alts := [], laidByText := true, laidKinds := [.data, .data], laidTests := true, laidLooks := .later }
def CivilYearsUptoCardSaid : Prop := Claim7.holds Tryd.pinned (.plain (OpenSpec.upto civilYearsSpec)) civilYearsUptoCard

/-- THE SECOND FORM's CARD OF 'feedvaultlaw02.CivilDaysMatchReference'. -/
def civilDaysMatchReferenceUptoCard : Claim7 := { stood := { row := civilDaysMatchReferenceUptoRow, standIns := [], harness := (true, "564813c94dfe14381b18b2a3d22cba546f9fc4ac031e5a5970ea516626e04b68"), looks := false }, kinds := [], alts := [], laidByText := true, laidKinds := [.data, .data], laidTests := true, laidLooks := .later }
def CivilDaysMatchReferenceUptoCardSaid : Prop := Claim7.holds Tryd.pinned (.plain (OpenSpec.upto civilDaysMatchReferenceSpec)) civilDaysMatchReferenceUptoCard

/-- THE SECOND FORM's CARD OF 'feedvaultlaw02.CivilDateMatchesReference'. -/
def civilDateMatchesReferenceUptoCard : Claim7 := { stood := { row := civilDateMatchesReferenceUptoRow, standIns := [], harness := (true, "564813c94dfe14381b18b2a3d22cba546f9fc4ac031e5a5970ea516626e04b68"), looks := false }, kinds := [], alts := [], laidByText := true, laidKinds := [.data, .data], laidTests := true, laidLooks := .later }
def CivilDateMatchesReferenceUptoCardSaid : Prop := Claim7.holds Tryd.pinned (.plain (OpenSpec.upto civilDateMatchesReferenceSpec)) civilDateMatchesReferenceUptoCard

/-- THE SECOND FORM's CARD OF 'feedvaultlaw02.CivilNextDay'. -/
def civilNextDayUptoCard : Claim7 := { stood := { row := civilNextDayUptoRow, standIns := [], harness := (true, "564813c94dfe14381b18b2a3d22cba546f9fc4ac031e5a5970ea516626e04b68"), looks := false }, kinds := [], alts := [], laidByText := true, laidKinds := [.data, .data], laidTests := true, laidLooks := .later }
def CivilNextDayUptoCardSaid : Prop := Claim7.holds Tryd.pinned (.plain (OpenSpec.upto civilNextDaySpec)) civilNextDayUptoCard

/-- THE SECOND FORM's CARD OF 'feedvaultlaw02.CivilSeconds'. -/
def civilSecondsUptoCard : Claim7 := { stood := { row := civilSecondsUptoRow, standIns := [], harness := (true, "564813c94dfe14381b18b2a3d22cba546f9fc4ac031e5a5970ea516626e04b68"), looks := false }, kinds := [], alts := [], laidByText := true, laidKinds := [.data, .data], laidTests := true, laidLooks := .later }
def CivilSecondsUptoCardSaid : Prop := Claim7.holds Tryd.pinned (.plain (OpenSpec.upto civilSecondsSpec)) civilSecondsUptoCard

/-- THE SECOND FORM's CARD OF 'feedvaultlaw02.CivilCycle'. -/
def civilCycleUptoCard : Claim7 := { stood := { row := civilCycleUptoRow, standIns := [], harness := (true, "564813c94dfe14381b18b2a3d22cba546f9fc4ac031e5a5970ea516626e04b68"), looks := false }, kinds := [], alts := [], laidByText := true, laidKinds := [.data, .data], laidTests := true, laidLooks := .later }
def CivilCycleUptoCardSaid : Prop := Claim7.holds Tryd.pinned (.plain (OpenSpec.upto civilCycleSpec)) civilCycleUptoCard
end Rows
end Go.Proofs.YtmpodplijalhmaaDoor
