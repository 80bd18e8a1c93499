/-
  NARROWER THAN 'FOR EVERY INPUT', by the rows' own cells (each row's printed sentence says how): XmlescapeMatchesReference: laid · XmlescapeReferences: laid · XmlescapeUnescapes: laid · XmlescapeRoundTrip: laid · XmlescapeConcatenation: laid · XmlescapeNumbers: laid.
  DERIVED. THE GIVEN ROWS OF THIS SEAT. 6 by the template 'for every input the law returns true; each argument reads behind the call as it read before'; 0 by the template 'total and deterministic' (their statements: YtofoloidllkfaaaDoorTotals.lean).
  GIVEN WITH THE SEED: the statements are not yours to turn. If you find one false, say at which input.
  Laid BY PROGRAM, IN A SANDBOX (cutbox-rows.mjs): the forced cells as the released guide's own fill.sh prints them over the translation 0193e198b62ffbc1… (all of the seat's roots in one cut). By AI agents, Wed Nov 11 2026. No macro, syntax, notation, axiom, sorry.
-/
import Derived.Test.YtofoloidllkfaaaDoorChecked
import GoSem.Claim
import GoSem.ClaimJoined
import GoSem.ClaimMapViews
import Derived.JoinedTies
import Derived.KernelRfl
namespace Go.Proofs.YtofoloidllkfaaaDoor
/- THE CELL 'sum', in the pinned program and in every row, IS THE sha256 OF THE DUMP (.gsa) THAT YtofoloidllkfaaaDoorProg.lean LOADS. Nothing in Lean hashes anything: it is a label: what it is worth is what the hold of that sum in a sandbox is worth. -/
noncomputable def Tryd.pinned : Pinned := { name := "ytofoloidllkfaaadoor", sum := "0193e198b62ffbc15399ea52c447218087c0d4796e785237fd58e8de1261243c", checked := Tryd.checked }
namespace Rows
def none {H : Type} : Left H := { results := [], args := [] }

/- WHAT THE LISTED PACKAGE-LEVEL VARIABLES READ AS WHEN THE CALL BEGINS. Each datum BY PROGRAM (the guide's laid-datum.mjs) off the statement by which the dump's own 'gosem.cut.vars' lays the variable. In a bare row this is a premise. The card (YtofoloidllkfaaaDoorCards.lean) ties it to the program's text. -/
def laid_feedvault_xmlescape_names {H : Type} : DataW H := .slice [.agg [.lit (.string [38, 108, 116, 59]), .lit (.int .i32 60)], .agg [.lit (.string [38, 103, 116, 59]), .lit (.int .i32 62)], .agg [.lit (.string [38, 97, 109, 112, 59]), .lit (.int .i32 38)], .agg [.lit (.string [38, 97, 112, 111, 115, 59]), .lit (.int .i32 39)], .agg [.lit (.string [38, 113, 117, 111, 116, 59]), .lit (.int .i32 34)]] []

/-- 'feedvaultlaw05.XmlescapeMatchesReference': WHATEVER THE INPUT: true; the input reads as it did. -/
def xmlescapeMatchesReferenceSpec : ChangeSpec := { name := "xmlescapeMatchesReference", fn := fun _ => fun
  | [d] => { results := [.lit (.bool true)], args := [d] }
  | _ => none }
def xmlescapeMatchesReferenceRow : OpenClaim := { program := "ytofoloidllkfaaadoor", sum := "0193e198b62ffbc15399ea52c447218087c0d4796e785237fd58e8de1261243c", func := "feedvault/feedvaultlaw05.XmlescapeMatchesReference", spec := "xmlescapeMatchesReference", inPlace := ["internal/bytealg.IndexByteString", "internal/abi.NoEscape"], unfollowed := true, recurses := true, named := ["feedvault/xmlescape.names"], apart := false, laid := [("feedvault/xmlescape.names", laid_feedvault_xmlescape_names)] }
def XmlescapeMatchesReferenceSaid : Prop := xmlescapeMatchesReferenceRow.holds Tryd.pinned (OpenSpec.ofChange xmlescapeMatchesReferenceSpec)

/-- ITS FALSE NEIGHBOUR: 'it returns false'. Refute it at one input. -/
def xmlescapeMatchesReferenceWrong : ChangeSpec := { name := "xmlescapeMatchesReference", fn := fun _ => fun
  | [d] => { results := [.lit (.bool false)], args := [d] }
  | _ => none }
def XmlescapeMatchesReferenceWrongFalsely : Prop := xmlescapeMatchesReferenceRow.holds Tryd.pinned (OpenSpec.ofChange xmlescapeMatchesReferenceWrong)

/-- 'feedvaultlaw05.XmlescapeReferences': WHATEVER THE INPUT: true; the input reads as it did. -/
def xmlescapeReferencesSpec : ChangeSpec := { name := "xmlescapeReferences", fn := fun _ => fun
  | [d1, d2] => { results := [.lit (.bool true)], args := [d1, d2] }
  | _ => none }
def xmlescapeReferencesRow : OpenClaim := { program := "ytofoloidllkfaaadoor", sum := "0193e198b62ffbc15399ea52c447218087c0d4796e785237fd58e8de1261243c", func := "feedvault/feedvaultlaw05.XmlescapeReferences", spec := "xmlescapeReferences", inPlace := ["internal/bytealg.IndexByteString", "internal/abi.NoEscape"], unfollowed := true, recurses := true, named := ["feedvault/xmlescape.names"], apart := false, laid := [("feedvault/xmlescape.names", laid_feedvault_xmlescape_names)] }
def XmlescapeReferencesSaid : Prop := xmlescapeReferencesRow.holds Tryd.pinned (OpenSpec.ofChange xmlescapeReferencesSpec)

/-- ITS FALSE NEIGHBOUR: 'it returns false'. Refute it at one input. -/
def xmlescapeReferencesWrong : ChangeSpec := { name := "xmlescapeReferences", fn := fun _ => fun
  | [d1, d2] => { results := [.lit (.bool false)], args := [d1, d2] }
  | _ => none }
def XmlescapeReferencesWrongFalsely : Prop := xmlescapeReferencesRow.holds Tryd.pinned (OpenSpec.ofChange xmlescapeReferencesWrong)

/-- 'feedvaultlaw05.XmlescapeUnescapes': WHATEVER THE INPUT: true; the input reads as it did. -/
def xmlescapeUnescapesSpec : ChangeSpec := { name := "xmlescapeUnescapes", fn := fun _ => fun
  | [d] => { results := [.lit (.bool true)], args := [d] }
  | _ => none }
def xmlescapeUnescapesRow : OpenClaim := { program := "ytofoloidllkfaaadoor", sum := "0193e198b62ffbc15399ea52c447218087c0d4796e785237fd58e8de1261243c", func := "feedvault/feedvaultlaw05.XmlescapeUnescapes", spec := "xmlescapeUnescapes", inPlace := ["internal/bytealg.IndexByteString", "internal/abi.NoEscape"], unfollowed := true, recurses := true, named := ["feedvault/xmlescape.names"], apart := false, laid := [("feedvault/xmlescape.names", laid_feedvault_xmlescape_names)] }
def XmlescapeUnescapesSaid : Prop := xmlescapeUnescapesRow.holds Tryd.pinned (OpenSpec.ofChange xmlescapeUnescapesSpec)

/-- ITS FALSE NEIGHBOUR: 'it returns false'. Refute it at one input. -/
def xmlescapeUnescapesWrong : ChangeSpec := { name := "xmlescapeUnescapes", fn := fun _ => fun
  | [d] => { results := [.lit (.bool false)], args := [d] }
  | _ => none }
def XmlescapeUnescapesWrongFalsely : Prop := xmlescapeUnescapesRow.holds Tryd.pinned (OpenSpec.ofChange xmlescapeUnescapesWrong)

/-- 'feedvaultlaw05.XmlescapeRoundTrip': WHATEVER THE INPUT: true; the input reads as it did. -/
def xmlescapeRoundTripSpec : ChangeSpec := { name := "xmlescapeRoundTrip", fn := fun _ => fun
  | [d] => { results := [.lit (.bool true)], args := [d] }
  | _ => none }
def xmlescapeRoundTripRow : OpenClaim := { program := "ytofoloidllkfaaadoor", sum := "0193e198b62ffbc15399ea52c447218087c0d4796e785237fd58e8de1261243c", func := "feedvault/feedvaultlaw05.XmlescapeRoundTrip", spec := "xmlescapeRoundTrip", inPlace := ["internal/bytealg.IndexByteString", "internal/abi.NoEscape"], unfollowed := true, recurses := true, named := ["feedvault/xmlescape.names"], apart := false, laid := [("feedvault/xmlescape.names", laid_feedvault_xmlescape_names)] }
def XmlescapeRoundTripSaid : Prop := xmlescapeRoundTripRow.holds Tryd.pinned (OpenSpec.ofChange xmlescapeRoundTripSpec)

/-- ITS FALSE NEIGHBOUR: 'it returns false'. Refute it at one input. -/
def xmlescapeRoundTripWrong : ChangeSpec := { name := "xmlescapeRoundTrip", fn := fun _ => fun
  | [d] => { results := [.lit (.bool false)], args := [d] }
  | _ => none }
def XmlescapeRoundTripWrongFalsely : Prop := xmlescapeRoundTripRow.holds Tryd.pinned (OpenSpec.ofChange xmlescapeRoundTripWrong)

/-- 'feedvaultlaw05.XmlescapeConcatenation': WHATEVER THE INPUT: true; the input reads as it did. -/
def xmlescapeConcatenationSpec : ChangeSpec := { name := "xmlescapeConcatenation", fn := fun _ => fun
  | [d1, d2] => { results := [.lit (.bool true)], args := [d1, d2] }
  | _ => none }
def xmlescapeConcatenationRow : OpenClaim := { program := "ytofoloidllkfaaadoor", sum := "0193e198b62ffbc15399ea52c447218087c0d4796e785237fd58e8de1261243c", func := "feedvault/feedvaultlaw05.XmlescapeConcatenation", spec := "xmlescapeConcatenation", inPlace := ["internal/bytealg.IndexByteString", "internal/abi.NoEscape"], unfollowed := true, recurses := true, named := ["feedvault/xmlescape.names"], apart := false, laid := [("feedvault/xmlescape.names", laid_feedvault_xmlescape_names)] }
def XmlescapeConcatenationSaid : Prop := xmlescapeConcatenationRow.holds Tryd.pinned (OpenSpec.ofChange xmlescapeConcatenationSpec)

/-- ITS FALSE NEIGHBOUR: 'it returns false'. Refute it at one input. -/
def xmlescapeConcatenationWrong : ChangeSpec := { name := "xmlescapeConcatenation", fn := fun _ => fun
  | [d1, d2] => { results := [.lit (.bool false)], args := [d1, d2] }
  | _ => none }
def XmlescapeConcatenationWrongFalsely : Prop := xmlescapeConcatenationRow.holds Tryd.pinned (OpenSpec.ofChange xmlescapeConcatenationWrong)

/-- 'feedvaultlaw05.XmlescapeNumbers': WHATEVER THE INPUT: true; the input reads as it did. -/
def xmlescapeNumbersSpec : ChangeSpec := { name := "xmlescapeNumbers", fn := fun _ => fun
  | [d1, d2] => { results := [.lit (.bool true)], args := [d1, d2] }
  | _ => none }
def xmlescapeNumbersRow : OpenClaim := { program := "ytofoloidllkfaaadoor", sum := "0193e198b62ffbc15399ea52c447218087c0d4796e785237fd58e8de1261243c", func := "feedvault/feedvaultlaw05.XmlescapeNumbers", spec := "xmlescapeNumbers", inPlace := ["internal/abi.NoEscape", "internal/bytealg.MakeNoZero", "internal/bytealg.IndexByteString"], unfollowed := true, recurses := true, named := ["feedvault/xmlescape.names"], apart := false, laid := [("feedvault/xmlescape.names", laid_feedvault_xmlescape_names)] }
def XmlescapeNumbersSaid : Prop := xmlescapeNumbersRow.holds Tryd.pinned (OpenSpec.ofChange xmlescapeNumbersSpec)

/-- ITS FALSE NEIGHBOUR: 'it returns false'. Refute it at one input. -/
def xmlescapeNumbersWrong : ChangeSpec := { name := "xmlescapeNumbers", fn := fun _ => fun
  | [d1, d2] => { results := [.lit (.bool false)], args := [d1, d2] }
  | _ => none }
def XmlescapeNumbersWrongFalsely : Prop := xmlescapeNumbersRow.holds Tryd.pinned (OpenSpec.ofChange xmlescapeNumbersWrong)

/- THE SECOND FORM. 'bulk': how many values and letters a reading holds, each counted each time it is reached (what is shared counts as often as it is met; a slice's spare places count too). A statement '..UptoSaid' is the law's where the arguments, and the package variables that the reading takes, are together of bulk at most 1048576: NARROWER than '..Said'. Prove '..Said' where nothing that the law and all that it calls make is longer than what came in: it says more and counts as full. Else prove '..UptoSaid'. A law counts once. -/
mutual
def uptoBulk {H : Type} : DataW H → Nat
  | .lit (.string bytes) => bytes.length + 1
  | .lit _ => 1
  | .nil => 1
  | .ptr d => uptoBulk d + 1
  | .slice elems spare => uptoBulkAll elems + uptoBulkAll spare + 1
  | .agg parts => uptoBulkAll parts + 1
  | .iface _ d => uptoBulk d + 1
  | .map entries => uptoBulkEntries entries + 1
  | .held _ => 1
def uptoBulkAll {H : Type} : List (DataW H) → Nat
  | [] => 0
  | d :: r => uptoBulk d + uptoBulkAll r
def uptoBulkEntries {H : Type} : List (Lit × DataW H) → Nat
  | [] => 0
  | x :: r => uptoBulkEntry x + uptoBulkEntries r
def uptoBulkEntry {H : Type} : Lit × DataW H → Nat
  | (.string bytes, d) => bytes.length + uptoBulk d + 1
  | (_, d) => uptoBulk d + 1
 end
def uptoSmall : (H : Type) → List (DataW H) → Bool := fun _ ds => decide (uptoBulkAll ds ≤ 1048576)
def OpenSpec.upto (s : _root_.Go.ChangeSpec) : _root_.Go.OpenSpec := { _root_.Go.OpenSpec.ofChange s with cond := some uptoSmall }

/-- 'feedvaultlaw05.XmlescapeMatchesReference', WHERE WHAT IT READS IS OF BULK AT MOST 1048576: true; the input reads as it did. -/
def xmlescapeMatchesReferenceUptoRow : OpenClaim := { program := "ytofoloidllkfaaadoor", sum := "0193e198b62ffbc15399ea52c447218087c0d4796e785237fd58e8de1261243c", func := "feedvault/feedvaultlaw05.XmlescapeMatchesReference", spec := "xmlescapeMatchesReference", inPlace := ["internal/bytealg.IndexByteString", "internal/abi.NoEscape"], unfollowed := true, recurses := true, named := ["feedvault/xmlescape.names"], apart := false, laid := [("feedvault/xmlescape.names", laid_feedvault_xmlescape_names)], narrowed := true }
def XmlescapeMatchesReferenceUptoSaid : Prop := xmlescapeMatchesReferenceUptoRow.holds Tryd.pinned (OpenSpec.upto xmlescapeMatchesReferenceSpec)

/-- 'feedvaultlaw05.XmlescapeReferences', WHERE WHAT IT READS IS OF BULK AT MOST 1048576: true; the input reads as it did. -/
def xmlescapeReferencesUptoRow : OpenClaim := { program := "ytofoloidllkfaaadoor", sum := "0193e198b62ffbc15399ea52c447218087c0d4796e785237fd58e8de1261243c", func := "feedvault/feedvaultlaw05.XmlescapeReferences", spec := "xmlescapeReferences", inPlace := ["internal/bytealg.IndexByteString", "internal/abi.NoEscape"], unfollowed := true, recurses := true, named := ["feedvault/xmlescape.names"], apart := false, laid := [("feedvault/xmlescape.names", laid_feedvault_xmlescape_names)], narrowed := true }
def XmlescapeReferencesUptoSaid : Prop := xmlescapeReferencesUptoRow.holds Tryd.pinned (OpenSpec.upto xmlescapeReferencesSpec)

/-- 'feedvaultlaw05.XmlescapeUnescapes', WHERE WHAT IT READS IS OF BULK AT MOST 1048576: true; the input reads as it did. -/
def xmlescapeUnescapesUptoRow : OpenClaim := { program := "ytofoloidllkfaaadoor", sum := "0193e198b62ffbc15399ea52c447218087c0d4796e785237fd58e8de1261243c", func := "feedvault/feedvaultlaw05.XmlescapeUnescapes", spec := "xmlescapeUnescapes", inPlace := ["internal/bytealg.IndexByteString", "internal/abi.NoEscape"], unfollowed := true, recurses := true, named := ["feedvault/xmlescape.names"], apart := false, laid := [("feedvault/xmlescape.names", laid_feedvault_xmlescape_names)], narrowed := true }
def XmlescapeUnescapesUptoSaid : Prop := xmlescapeUnescapesUptoRow.holds Tryd.pinned (OpenSpec.upto xmlescapeUnescapesSpec)

/-- 'feedvaultlaw05.XmlescapeRoundTrip', WHERE WHAT IT READS IS OF BULK AT MOST 1048576: true; the input reads as it did. -/
def xmlescapeRoundTripUptoRow : OpenClaim := { program := "ytofoloidllkfaaadoor", sum := "0193e198b62ffbc15399ea52c447218087c0d4796e785237fd58e8de1261243c", func := "feedvault/feedvaultlaw05.XmlescapeRoundTrip", spec := "xmlescapeRoundTrip", inPlace := ["internal/bytealg.IndexByteString", "internal/abi.NoEscape"], unfollowed := true, recurses := true, named := ["feedvault/xmlescape.names"], apart := false, laid := [("feedvault/xmlescape.names", laid_feedvault_xmlescape_names)], narrowed := true }
def XmlescapeRoundTripUptoSaid : Prop := xmlescapeRoundTripUptoRow.holds Tryd.pinned (OpenSpec.upto xmlescapeRoundTripSpec)

/-- 'feedvaultlaw05.XmlescapeConcatenation', WHERE WHAT IT READS IS OF BULK AT MOST 1048576: true; the input reads as it did. -/
def xmlescapeConcatenationUptoRow : OpenClaim := { program := "ytofoloidllkfaaadoor", sum := "0193e198b62ffbc15399ea52c447218087c0d4796e785237fd58e8de1261243c", func := "feedvault/feedvaultlaw05.XmlescapeConcatenation", spec := "xmlescapeConcatenation", inPlace := ["internal/bytealg.IndexByteString", "internal/abi.NoEscape"], unfollowed := true, recurses := true, named := ["feedvault/xmlescape.names"], apart := false, laid := [("feedvault/xmlescape.names", laid_feedvault_xmlescape_names)], narrowed := true }
def XmlescapeConcatenationUptoSaid : Prop := xmlescapeConcatenationUptoRow.holds Tryd.pinned (OpenSpec.upto xmlescapeConcatenationSpec)

/-- 'feedvaultlaw05.XmlescapeNumbers', WHERE WHAT IT READS IS OF BULK AT MOST 1048576: true; the input reads as it did. -/
def xmlescapeNumbersUptoRow : OpenClaim := { program := "ytofoloidllkfaaadoor", sum := "0193e198b62ffbc15399ea52c447218087c0d4796e785237fd58e8de1261243c", func := "feedvault/feedvaultlaw05.XmlescapeNumbers", spec := "xmlescapeNumbers", inPlace := ["internal/abi.NoEscape", "internal/bytealg.MakeNoZero", "internal/bytealg.IndexByteString"], unfollowed := true, recurses := true, named := ["feedvault/xmlescape.names"], apart := false, laid := [("feedvault/xmlescape.names", laid_feedvault_xmlescape_names)], narrowed := true }
def XmlescapeNumbersUptoSaid : Prop := xmlescapeNumbersUptoRow.holds Tryd.pinned (OpenSpec.upto xmlescapeNumbersSpec)

end Rows
end Go.Proofs.YtofoloidllkfaaaDoor
