/-
  NARROWER THAN 'FOR EVERY INPUT', by the rows' own cells (each row's printed sentence says how): CivilYears: laid · CivilDaysMatchReference: laid · CivilDateMatchesReference: laid · CivilNextDay: laid · CivilSeconds: laid · CivilCycle: laid.
  DERIVED. THE GIVEN ROWS OF THIS SEAT. 6 by the template 'for every input the law returns true; each argument reads behind the call as it read before'; 0 by the template 'total and deterministic' (their statements: YtmpodplijalhmaaDoorTotals.lean).
  GIVEN WITH THE SEED: the statements are not yours to turn. If you find one false, say at which input.
  Laid BY PROGRAM, IN A SANDBOX (cutbox-rows.mjs): the forced cells as the released guide's own fill.sh prints them over the translation 40e84dbe5bde6b06… (all of the seat's roots in one cut). By AI agents, Wed Nov 11 2026. No macro, syntax, notation, axiom, sorry.
-/
import Derived.Test.YtmpodplijalhmaaDoorChecked
import GoSem.Claim
import GoSem.ClaimJoined
import GoSem.ClaimMapViews
import Derived.JoinedTies
import Derived.KernelRfl
namespace Go.Proofs.YtmpodplijalhmaaDoor
/- THE CELL 'sum', in the pinned program and in every row, IS THE sha256 OF THE DUMP (.gsa) THAT YtmpodplijalhmaaDoorProg.lean LOADS. Nothing in Lean hashes anything: it is a label: what it is worth is what the hold of that sum in a sandbox is worth. -/
noncomputable def Tryd.pinned : Pinned := { name := "ytmpodplijalhmaadoor", sum := "40e84dbe5bde6b06176bbb1768244debcf071b2b1f7cea2ba7358b1848ed85de", checked := Tryd.checked }
namespace Rows
def none {H : Type} : Left H := { results := [], args := [] }

/- WHAT THE LISTED PACKAGE-LEVEL VARIABLES READ AS WHEN THE CALL BEGINS. Each datum BY PROGRAM (the guide's laid-datum.mjs) off the statement by which the dump's own 'gosem.cut.vars' lays the variable. In a bare row this is a premise. The card (YtmpodplijalhmaaDoorCards.lean) ties it to the program's text. -/
def laid_feedvault_civil_cycles {H : Type} : DataW H := .agg [.agg [.lit (.int .i64 400), .lit (.int .i64 146097), .lit (.int .i64 24)], .agg [.lit (.int .i64 100), .lit (.int .i64 36524), .lit (.int .i64 3)], .agg [.lit (.int .i64 4), .lit (.int .i64 1461), .lit (.int .i64 24)], .agg [.lit (.int .i64 1), .lit (.int .i64 365), .lit (.int .i64 3)]]
def laid_feedvault_civil_monthDays {H : Type} : DataW H := .agg [.lit (.int .i64 31), .lit (.int .i64 28), .lit (.int .i64 31), .lit (.int .i64 30), .lit (.int .i64 31), .lit (.int .i64 30), .lit (.int .i64 31), .lit (.int .i64 31), .lit (.int .i64 30), .lit (.int .i64 31), .lit (.int .i64 30), .lit (.int .i64 31)]

/-- 'feedvaultlaw02.CivilYears': WHATEVER THE INPUT: true; the input reads as it did. -/
def civilYearsSpec : ChangeSpec := { name := "civilYears", fn := fun _ => fun
  | [d1, d2] => { results := [.lit (.bool true)], args := [d1, d2] }
  | _ => none }
def civilYearsRow : OpenClaim := { program := "ytmpodplijalhmaadoor", sum := "40e84dbe5bde6b06176bbb1768244debcf071b2b1f7cea2ba7358b1848ed85de", func := "feedvault/feedvaultlaw02.CivilYears", spec := "civilYears", named := ["feedvault/civil.monthDays", "feedvault/civil.cycles"], apart := false, laid := [("feedvault/civil.cycles", laid_feedvault_civil_cycles), ("feedvault/civil.monthDays", laid_feedvault_civil_monthDays)] }
def CivilYearsSaid : Prop := civilYearsRow.holds Tryd.pinned (OpenSpec.ofChange civilYearsSpec)

/-- ITS FALSE NEIGHBOUR: 'it returns false'. Refute it at one input. -/
def civilYearsWrong : ChangeSpec := { name := "civilYears", fn := fun _ => fun
  | [d1, d2] => { results := [.lit (.bool false)], args := [d1, d2] }
  | _ => none }
def CivilYearsWrongFalsely : Prop := civilYearsRow.holds Tryd.pinned (OpenSpec.ofChange civilYearsWrong)

/-- 'feedvaultlaw02.CivilDaysMatchReference': WHATEVER THE INPUT: true; the input reads as it did. -/
def civilDaysMatchReferenceSpec : ChangeSpec := { name := "civilDaysMatchReference", fn := fun _ => fun
  | [d1, d2, d3] => { results := [.lit (.bool true)], args := [d1, d2, d3] }
  | _ => none }
def civilDaysMatchReferenceRow : OpenClaim := { program := "ytmpodplijalhmaadoor", sum := "40e84dbe5bde6b06176bbb1768244debcf071b2b1f7cea2ba7358b1848ed85de", func := "feedvault/feedvaultlaw02.CivilDaysMatchReference", spec := "civilDaysMatchReference", named := ["feedvault/civil.monthDays", "feedvault/civil.cycles"], apart := false, laid := [("feedvault/civil.cycles", laid_feedvault_civil_cycles), ("feedvault/civil.monthDays", laid_feedvault_civil_monthDays)] }
def CivilDaysMatchReferenceSaid : Prop := civilDaysMatchReferenceRow.holds Tryd.pinned (OpenSpec.ofChange civilDaysMatchReferenceSpec)

/-- ITS FALSE NEIGHBOUR: 'it returns false'. Refute it at one input. -/
def civilDaysMatchReferenceWrong : ChangeSpec := { name := "civilDaysMatchReference", fn := fun _ => fun
  | [d1, d2, d3] => { results := [.lit (.bool false)], args := [d1, d2, d3] }
  | _ => none }
def CivilDaysMatchReferenceWrongFalsely : Prop := civilDaysMatchReferenceRow.holds Tryd.pinned (OpenSpec.ofChange civilDaysMatchReferenceWrong)

/-- 'feedvaultlaw02.CivilDateMatchesReference': WHATEVER THE INPUT: true; the input reads as it did. -/
def civilDateMatchesReferenceSpec : ChangeSpec := { name := "civilDateMatchesReference", fn := fun _ => fun
  | [d] => { results := [.lit (.bool true)], args := [d] }
  | _ => none }
def civilDateMatchesReferenceRow : OpenClaim := { program := "ytmpodplijalhmaadoor", sum := "40e84dbe5bde6b06176bbb1768244debcf071b2b1f7cea2ba7358b1848ed85de", func := "feedvault/feedvaultlaw02.CivilDateMatchesReference", spec := "civilDateMatchesReference", named := ["feedvault/civil.cycles", "feedvault/civil.monthDays"], apart := false, laid := [("feedvault/civil.cycles", laid_feedvault_civil_cycles), ("feedvault/civil.monthDays", laid_feedvault_civil_monthDays)] }
def CivilDateMatchesReferenceSaid : Prop := civilDateMatchesReferenceRow.holds Tryd.pinned (OpenSpec.ofChange civilDateMatchesReferenceSpec)

/-- ITS FALSE NEIGHBOUR: 'it returns false'. Refute it at one input. -/
def civilDateMatchesReferenceWrong : ChangeSpec := { name := "civilDateMatchesReference", fn := fun _ => fun
  | [d] => { results := [.lit (.bool false)], args := [d] }
  | _ => none }
def CivilDateMatchesReferenceWrongFalsely : Prop := civilDateMatchesReferenceRow.holds Tryd.pinned (OpenSpec.ofChange civilDateMatchesReferenceWrong)

/-- 'feedvaultlaw02.CivilNextDay': WHATEVER THE INPUT: true; the input reads as it did. -/
def civilNextDaySpec : ChangeSpec := { name := "civilNextDay", fn := fun _ => fun
  | [d] => { results := [.lit (.bool true)], args := [d] }
  | _ => none }
def civilNextDayRow : OpenClaim := { program := "ytmpodplijalhmaadoor", sum := "40e84dbe5bde6b06176bbb1768244debcf071b2b1f7cea2ba7358b1848ed85de", func := "feedvault/feedvaultlaw02.CivilNextDay", spec := "civilNextDay", named := ["feedvault/civil.monthDays", "feedvault/civil.cycles"], apart := false, laid := [("feedvault/civil.cycles", laid_feedvault_civil_cycles), ("feedvault/civil.monthDays", laid_feedvault_civil_monthDays)] }
def CivilNextDaySaid : Prop := civilNextDayRow.holds Tryd.pinned (OpenSpec.ofChange civilNextDaySpec)

/-- ITS FALSE NEIGHBOUR: 'it returns false'. Refute it at one input. -/
def civilNextDayWrong : ChangeSpec := { name := "civilNextDay", fn := fun _ => fun
  | [d] => { results := [.lit (.bool false)], args := [d] }
  | _ => none }
def CivilNextDayWrongFalsely : Prop := civilNextDayRow.holds Tryd.pinned (OpenSpec.ofChange civilNextDayWrong)

/-- 'feedvaultlaw02.CivilSeconds': WHATEVER THE INPUT: true; the input reads as it did. -/
def civilSecondsSpec : ChangeSpec := { name := "civilSeconds", fn := fun _ => fun
  | [d1, d2] => { results := [.lit (.bool true)], args := [d1, d2] }
  | _ => none }
def civilSecondsRow : OpenClaim := { program := "ytmpodplijalhmaadoor", sum := "40e84dbe5bde6b06176bbb1768244debcf071b2b1f7cea2ba7358b1848ed85de", func := "feedvault/feedvaultlaw02.CivilSeconds", spec := "civilSeconds", named := ["feedvault/civil.monthDays", "feedvault/civil.cycles"], apart := false, laid := [("feedvault/civil.cycles", laid_feedvault_civil_cycles), ("feedvault/civil.monthDays", laid_feedvault_civil_monthDays)] }
def CivilSecondsSaid : Prop := civilSecondsRow.holds Tryd.pinned (OpenSpec.ofChange civilSecondsSpec)

/-- ITS FALSE NEIGHBOUR: 'it returns false'. Refute it at one input. -/
def civilSecondsWrong : ChangeSpec := { name := "civilSeconds", fn := fun _ => fun
  | [d1, d2] => { results := [.lit (.bool false)], args := [d1, d2] }
  | _ => none }
def CivilSecondsWrongFalsely : Prop := civilSecondsRow.holds Tryd.pinned (OpenSpec.ofChange civilSecondsWrong)

/-- 'feedvaultlaw02.CivilCycle': WHATEVER THE INPUT: true; the input reads as it did. -/
def civilCycleSpec : ChangeSpec := { name := "civilCycle", fn := fun _ => fun
  | [d1, d2, d3] => { results := [.lit (.bool true)], args := [d1, d2, d3] }
  | _ => none }
def civilCycleRow : OpenClaim := { program := "ytmpodplijalhmaadoor", sum := "40e84dbe5bde6b06176bbb1768244debcf071b2b1f7cea2ba7358b1848ed85de", func := "feedvault/feedvaultlaw02.CivilCycle", spec := "civilCycle", named := ["feedvault/civil.monthDays", "feedvault/civil.cycles"], apart := false, laid := [("feedvault/civil.cycles", laid_feedvault_civil_cycles), ("feedvault/civil.monthDays", laid_feedvault_civil_monthDays)] }
def CivilCycleSaid : Prop := civilCycleRow.holds Tryd.pinned (OpenSpec.ofChange civilCycleSpec)

/-- ITS FALSE NEIGHBOUR: 'it returns false'. Refute it at one input. -/
def civilCycleWrong : ChangeSpec := { name := "civilCycle", fn := fun _ => fun
  | [d1, d2, d3] => { results := [.lit (.bool false)], args := [d1, d2, d3] }
  | _ => none }
def CivilCycleWrongFalsely : Prop := civilCycleRow.holds Tryd.pinned (OpenSpec.ofChange civilCycleWrong)

/- THE SECOND FORM. 'bulk': how many values and letters a reading holds, each counted each time it is reached (what is shared counts as often as it is met; a slice's spare places count too). A statement '..UptoSaid' is the law's where the arguments, and the package variables that the reading takes, are together of bulk at most 1048576: NARROWER than '..Said'. Prove '..Said' where nothing that the law and all that it calls make is longer than what came in: it says more and counts as full. Else prove '..UptoSaid'. A law counts once. -/
mutual
def uptoBulk {H : Type} : DataW H → Nat
  | .lit (.string bytes) => bytes.length + 1
  | .lit _ => 1
  | .nil => 1
  | .ptr d => uptoBulk d + 1
  | .slice elems spare => uptoBulkAll elems + uptoBulkAll spare + 1
  | .agg parts => uptoBulkAll parts + 1
  | .iface _ d => uptoBulk d + 1
  | .map entries => uptoBulkEntries entries + 1
  | .held _ => 1
def uptoBulkAll {H : Type} : List (DataW H) → Nat
  | [] => 0
  | d :: r => uptoBulk d + uptoBulkAll r
def uptoBulkEntries {H : Type} : List (Lit × DataW H) → Nat
  | [] => 0
  | x :: r => uptoBulkEntry x + uptoBulkEntries r
def uptoBulkEntry {H : Type} : Lit × DataW H → Nat
  | (.string bytes, d) => bytes.length + uptoBulk d + 1
  | (_, d) => uptoBulk d + 1
 end
def uptoSmall : (H : Type) → List (DataW H) → Bool := fun _ ds => decide (uptoBulkAll ds ≤ 1048576)
def OpenSpec.upto (s : _root_.Go.ChangeSpec) : _root_.Go.OpenSpec := { _root_.Go.OpenSpec.ofChange s with cond := some uptoSmall }

/-- 'feedvaultlaw02.CivilYears', WHERE WHAT IT READS IS OF BULK AT MOST 1048576: true; the input reads as it did. -/
def civilYearsUptoRow : OpenClaim := { program := "ytmpodplijalhmaadoor", sum := "40e84dbe5bde6b06176bbb1768244debcf071b2b1f7cea2ba7358b1848ed85de", func := "feedvault/feedvaultlaw02.CivilYears", spec := "civilYears", named := ["feedvault/civil.monthDays", "feedvault/civil.cycles"], apart := false, laid := [("feedvault/civil.cycles", laid_feedvault_civil_cycles), ("feedvault/civil.monthDays", laid_feedvault_civil_monthDays)], narrowed := true }
def CivilYearsUptoSaid : Prop := civilYearsUptoRow.holds Tryd.pinned (OpenSpec.upto civilYearsSpec)

/-- 'feedvaultlaw02.CivilDaysMatchReference', WHERE WHAT IT READS IS OF BULK AT MOST 1048576: true; the input reads as it did. -/
def civilDaysMatchReferenceUptoRow : OpenClaim := { program := "ytmpodplijalhmaadoor", sum := "40e84dbe5bde6b06176bbb1768244debcf071b2b1f7cea2ba7358b1848ed85de", func := "feedvault/feedvaultlaw02.CivilDaysMatchReference", spec := "civilDaysMatchReference", named := ["feedvault/civil.monthDays", "feedvault/civil.cycles"], apart := false, laid := [("feedvault/civil.cycles", laid_feedvault_civil_cycles), ("feedvault/civil.monthDays", laid_feedvault_civil_monthDays)], narrowed := true }
def CivilDaysMatchReferenceUptoSaid : Prop := civilDaysMatchReferenceUptoRow.holds Tryd.pinned (OpenSpec.upto civilDaysMatchReferenceSpec)

/-- 'feedvaultlaw02.CivilDateMatchesReference', WHERE WHAT IT READS IS OF BULK AT MOST 1048576: true; the input reads as it did. -/
def civilDateMatchesReferenceUptoRow : OpenClaim := { program := "ytmpodplijalhmaadoor", sum := "40e84dbe5bde6b06176bbb1768244debcf071b2b1f7cea2ba7358b1848ed85de", func := "feedvault/feedvaultlaw02.CivilDateMatchesReference", spec := "civilDateMatchesReference", named := ["feedvault/civil.cycles", "feedvault/civil.monthDays"], apart := false, laid := [("feedvault/civil.cycles", laid_feedvault_civil_cycles), ("feedvault/civil.monthDays", laid_feedvault_civil_monthDays)], narrowed := true }
def CivilDateMatchesReferenceUptoSaid : Prop := civilDateMatchesReferenceUptoRow.holds Tryd.pinned (OpenSpec.upto civilDateMatchesReferenceSpec)

/-- 'feedvaultlaw02.CivilNextDay', WHERE WHAT IT READS IS OF BULK AT MOST 1048576: true; the input reads as it did. -/
def civilNextDayUptoRow : OpenClaim := { program := "ytmpodplijalhmaadoor", sum := "40e84dbe5bde6b06176bbb1768244debcf071b2b1f7cea2ba7358b1848ed85de", func := "feedvault/feedvaultlaw02.CivilNextDay", spec := "civilNextDay", named := ["feedvault/civil.monthDays", "feedvault/civil.cycles"], apart := false, laid := [("feedvault/civil.cycles", laid_feedvault_civil_cycles), ("feedvault/civil.monthDays", laid_feedvault_civil_monthDays)], narrowed := true }
def CivilNextDayUptoSaid : Prop := civilNextDayUptoRow.holds Tryd.pinned (OpenSpec.upto civilNextDaySpec)

/-- 'feedvaultlaw02.CivilSeconds', WHERE WHAT IT READS IS OF BULK AT MOST 1048576: true; the input reads as it did. -/
def civilSecondsUptoRow : OpenClaim := { program := "ytmpodplijalhmaadoor", sum := "40e84dbe5bde6b06176bbb1768244debcf071b2b1f7cea2ba7358b1848ed85de", func := "feedvault/feedvaultlaw02.CivilSeconds", spec := "civilSeconds", named := ["feedvault/civil.monthDays", "feedvault/civil.cycles"], apart := false, laid := [("feedvault/civil.cycles", laid_feedvault_civil_cycles), ("feedvault/civil.monthDays", laid_feedvault_civil_monthDays)], narrowed := true }
def CivilSecondsUptoSaid : Prop := civilSecondsUptoRow.holds Tryd.pinned (OpenSpec.upto civilSecondsSpec)

/-- 'feedvaultlaw02.CivilCycle', WHERE WHAT IT READS IS OF BULK AT MOST 1048576: true; the input reads as it did. -/
def civilCycleUptoRow : OpenClaim := { program := "ytmpodplijalhmaadoor", sum := "40e84dbe5bde6b06176bbb1768244debcf071b2b1f7cea2ba7358b1848ed85de", func := "feedvault/feedvaultlaw02.CivilCycle", spec := "civilCycle", named := ["feedvault/civil.monthDays", "feedvault/civil.cycles"], apart := false, laid := [("feedvault/civil.cycles", laid_feedvault_civil_cycles), ("feedvault/civil.monthDays", laid_feedvault_civil_monthDays)], narrowed := true }
def CivilCycleUptoSaid : Prop := civilCycleUptoRow.holds Tryd.pinned (OpenSpec.upto civilCycleSpec)

end Rows
end Go.Proofs.YtmpodplijalhmaaDoor
