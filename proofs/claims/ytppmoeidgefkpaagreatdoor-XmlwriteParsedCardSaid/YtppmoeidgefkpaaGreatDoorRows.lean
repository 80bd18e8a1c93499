/-
  NARROWER THAN 'FOR EVERY INPUT', by the rows' own cells (each row's printed sentence says how): XmlwriteRoundTrip: loops, laid · XmlwriteParsed: laid.
  DERIVED. THE GIVEN ROWS OF THIS SEAT. 2 by the template 'for every input the law returns true; each argument reads behind the call as it read before'; 0 by the template 'total and deterministic' (their statements: YtppmoeidgefkpaaGreatDoorTotals.lean).
  GIVEN WITH THE SEED: the statements are not yours to turn. If you find one false, say at which input.
  Laid BY PROGRAM, IN A SANDBOX (cutbox-rows.mjs): the forced cells as the released guide's own fill.sh prints them over the translation e793c82d9dc7e1e7… (all of the seat's roots in one cut). By AI agents, Wed Nov 11 2026. No macro, syntax, notation, axiom, sorry.
-/
import Derived.Test.YtppmoeidgefkpaaGreatDoorChecked
import GoSem.PinnedTables
import GoSem.Claim
import GoSem.ClaimJoined
import GoSem.ClaimMapViews
import Derived.JoinedTies
import Derived.KernelRfl
namespace Go.Proofs.YtppmoeidgefkpaaGreatDoor
/- THE CELL 'sum', in the pinned program and in every row, IS THE sha256 OF THE DUMP (.gsa) THAT YtppmoeidgefkpaaGreatDoorProg.lean LOADS. Nothing in Lean hashes anything: it is a label: what it is worth is what the hold of that sum in a sandbox is worth. -/
noncomputable def Tryz.pinned : Pinned := { name := "ytppmoeidgefkpaagreatdoor", sum := "e793c82d9dc7e1e7dd037e7160efb5fa809bdf2b578b3eaf930dc4af0389555f", checked := Tryz.checked }
namespace Rows
def none {H : Type} : Left H := { results := [], args := [] }

/- WHAT THE LISTED PACKAGE-LEVEL VARIABLES READ AS WHEN THE CALL BEGINS. Each datum BY PROGRAM (the guide's laid-datum.mjs) off the statement by which the dump's own 'gosem.cut.vars' lays the variable. In a bare row this is a premise. The card (YtppmoeidgefkpaaGreatDoorCards.lean) ties it to the program's text. -/
def laid_unicode_utf8_acceptRanges {H : Type} : DataW H := .agg [.agg [.lit (.int .u8 128), .lit (.int .u8 191)], .agg [.lit (.int .u8 160), .lit (.int .u8 191)], .agg [.lit (.int .u8 128), .lit (.int .u8 159)], .agg [.lit (.int .u8 144), .lit (.int .u8 191)], .agg [.lit (.int .u8 128), .lit (.int .u8 143)], .agg [.lit (.int .u8 0), .lit (.int .u8 0)], .agg [.lit (.int .u8 0), .lit (.int .u8 0)], .agg [.lit (.int .u8 0), .lit (.int .u8 0)], .agg [.lit (.int .u8 0), .lit (.int .u8 0)], .agg [.lit (.int .u8 0), .lit (.int .u8 0)], .agg [.lit (.int .u8 0), .lit (.int .u8 0)], .agg [.lit (.int .u8 0), .lit (.int .u8 0)], .agg [.lit (.int .u8 0), .lit (.int .u8 0)], .agg [.lit (.int .u8 0), .lit (.int .u8 0)], .agg [.lit (.int .u8 0), .lit (.int .u8 0)], .agg [.lit (.int .u8 0), .lit (.int .u8 0)]]
def laid_feedvault_text_nameSpans {H : Type} : DataW H := .slice [.agg [.lit (.int .i32 45), .lit (.int .i32 46), .lit (.bool false)], .agg [.lit (.int .i32 48), .lit (.int .i32 57), .lit (.bool false)], .agg [.lit (.int .i32 65), .lit (.int .i32 90), .lit (.bool true)], .agg [.lit (.int .i32 95), .lit (.int .i32 95), .lit (.bool true)], .agg [.lit (.int .i32 97), .lit (.int .i32 122), .lit (.bool true)], .agg [.lit (.int .i32 183), .lit (.int .i32 183), .lit (.bool false)], .agg [.lit (.int .i32 192), .lit (.int .i32 214), .lit (.bool true)], .agg [.lit (.int .i32 216), .lit (.int .i32 246), .lit (.bool true)], .agg [.lit (.int .i32 248), .lit (.int .i32 767), .lit (.bool true)], .agg [.lit (.int .i32 768), .lit (.int .i32 879), .lit (.bool false)], .agg [.lit (.int .i32 880), .lit (.int .i32 893), .lit (.bool true)], .agg [.lit (.int .i32 895), .lit (.int .i32 8191), .lit (.bool true)], .agg [.lit (.int .i32 8204), .lit (.int .i32 8205), .lit (.bool true)], .agg [.lit (.int .i32 8255), .lit (.int .i32 8256), .lit (.bool false)], .agg [.lit (.int .i32 8304), .lit (.int .i32 8591), .lit (.bool true)], .agg [.lit (.int .i32 11264), .lit (.int .i32 12271), .lit (.bool true)], .agg [.lit (.int .i32 12289), .lit (.int .i32 55295), .lit (.bool true)], .agg [.lit (.int .i32 63744), .lit (.int .i32 64975), .lit (.bool true)], .agg [.lit (.int .i32 65008), .lit (.int .i32 65533), .lit (.bool true)], .agg [.lit (.int .i32 65536), .lit (.int .i32 983039), .lit (.bool true)]] []
def laid_feedvault_xmlescape_names {H : Type} : DataW H := .slice [.agg [.lit (.string [38, 108, 116, 59]), .lit (.int .i32 60)], .agg [.lit (.string [38, 103, 116, 59]), .lit (.int .i32 62)], .agg [.lit (.string [38, 97, 109, 112, 59]), .lit (.int .i32 38)], .agg [.lit (.string [38, 97, 112, 111, 115, 59]), .lit (.int .i32 39)], .agg [.lit (.string [38, 113, 117, 111, 116, 59]), .lit (.int .i32 34)]] []
/-- One of Go's own tables, pinned by name: the form's constant. -/
def laid_unicode_utf8_first : DataW Unit := Go.Pinned.utf8First

/-- 'feedvaultlaw09.XmlwriteRoundTrip': WHATEVER THE INPUT: true; the input reads as it did. -/
def xmlwriteRoundTripSpec : ChangeSpec := { name := "xmlwriteRoundTrip", fn := fun _ => fun
  | [d] => { results := [.lit (.bool true)], args := [d] }
  | _ => none }
def xmlwriteRoundTripRow : OpenClaim := { program := "ytppmoeidgefkpaagreatdoor", sum := "e793c82d9dc7e1e7dd037e7160efb5fa809bdf2b578b3eaf930dc4af0389555f", func := "feedvault/feedvaultlaw09.XmlwriteRoundTrip", spec := "xmlwriteRoundTrip", inPlace := ["internal/abi.NoEscape", "internal/bytealg.IndexByteString", "internal/bytealg.IndexString", "internal/bytealg.CountString", "internal/bytealg.MakeNoZero"], unfollowed := true, recurses := true, named := ["unicode/utf8.first", "unicode/utf8.acceptRanges", "feedvault/text.nameSpans", "internal/bytealg.MaxLen", "feedvault/xmlescape.names"], loops := true, apart := false, laid := [("unicode/utf8.acceptRanges", laid_unicode_utf8_acceptRanges), ("feedvault/text.nameSpans", laid_feedvault_text_nameSpans), ("feedvault/xmlescape.names", laid_feedvault_xmlescape_names), ("unicode/utf8.first", laid_unicode_utf8_first)] }
def XmlwriteRoundTripSaid : Prop := xmlwriteRoundTripRow.holds Tryz.pinned (OpenSpec.ofChange xmlwriteRoundTripSpec)

/-- ITS FALSE NEIGHBOUR: 'it returns false'. Refute it at one input. -/
def xmlwriteRoundTripWrong : ChangeSpec := { name := "xmlwriteRoundTrip", fn := fun _ => fun
  | [d] => { results := [.lit (.bool false)], args := [d] }
  | _ => none }
def XmlwriteRoundTripWrongFalsely : Prop := xmlwriteRoundTripRow.holds Tryz.pinned (OpenSpec.ofChange xmlwriteRoundTripWrong)

/-- 'feedvaultlaw09.XmlwriteParsed': WHATEVER THE INPUT: true; the input reads as it did. -/
def xmlwriteParsedSpec : ChangeSpec := { name := "xmlwriteParsed", fn := fun _ => fun
  | [d] => { results := [.lit (.bool true)], args := [d] }
  | _ => none }
def xmlwriteParsedRow : OpenClaim := { program := "ytppmoeidgefkpaagreatdoor", sum := "e793c82d9dc7e1e7dd037e7160efb5fa809bdf2b578b3eaf930dc4af0389555f", func := "feedvault/feedvaultlaw09.XmlwriteParsed", spec := "xmlwriteParsed", inPlace := ["internal/abi.NoEscape", "internal/bytealg.IndexByteString", "internal/bytealg.IndexString", "internal/bytealg.CountString", "internal/bytealg.MakeNoZero"], unfollowed := true, recurses := true, named := ["unicode/utf8.first", "unicode/utf8.acceptRanges", "feedvault/text.nameSpans", "internal/bytealg.MaxLen", "feedvault/xmlescape.names"], apart := false, laid := [("unicode/utf8.acceptRanges", laid_unicode_utf8_acceptRanges), ("feedvault/text.nameSpans", laid_feedvault_text_nameSpans), ("feedvault/xmlescape.names", laid_feedvault_xmlescape_names), ("unicode/utf8.first", laid_unicode_utf8_first)] }
def XmlwriteParsedSaid : Prop := xmlwriteParsedRow.holds Tryz.pinned (OpenSpec.ofChange xmlwriteParsedSpec)

/-- ITS FALSE NEIGHBOUR: 'it returns false'. Refute it at one input. -/
def xmlwriteParsedWrong : ChangeSpec := { name := "xmlwriteParsed", fn := fun _ => fun
  | [d] => { results := [.lit (.bool false)], args := [d] }
  | _ => none }
def XmlwriteParsedWrongFalsely : Prop := xmlwriteParsedRow.holds Tryz.pinned (OpenSpec.ofChange xmlwriteParsedWrong)

/- THE SECOND FORM. 'bulk': how many values and letters a reading holds, each counted each time it is reached (what is shared counts as often as it is met; a slice's spare places count too). A statement '..UptoSaid' is the law's where the arguments, and the package variables that the reading takes, are together of bulk at most 1048576: NARROWER than '..Said'. Prove '..Said' where nothing that the law and all that it calls make is longer than what came in: it says more and counts as full. Else prove '..UptoSaid'. A law counts once. -/
mutual
def uptoBulk {H : Type} : DataW H → Nat
  | .lit (.string bytes) => bytes.length + 1
  | .lit _ => 1
  | .nil => 1
  | .ptr d => uptoBulk d + 1
  | .slice elems spare => uptoBulkAll elems + uptoBulkAll spare + 1
  | .agg parts => uptoBulkAll parts + 1
  | .iface _ d => uptoBulk d + 1
  | .map entries => uptoBulkEntries entries + 1
  | .held _ => 1
def uptoBulkAll {H : Type} : List (DataW H) → Nat
  | [] => 0
  | d :: r => uptoBulk d + uptoBulkAll r
def uptoBulkEntries {H : Type} : List (Lit × DataW H) → Nat
  | [] => 0
  | x :: r => uptoBulkEntry x + uptoBulkEntries r
def uptoBulkEntry {H : Type} : Lit × DataW H → Nat
  | (.string bytes, d) => bytes.length + uptoBulk d + 1
  | (_, d) => uptoBulk d + 1
 end
def uptoSmall : (H : Type) → List (DataW H) → Bool := fun _ ds => decide (uptoBulkAll ds ≤ 1048576)
def OpenSpec.upto (s : _root_.Go.ChangeSpec) : _root_.Go.OpenSpec := { _root_.Go.OpenSpec.ofChange s with cond := some uptoSmall }

/-- 'feedvaultlaw09.XmlwriteRoundTrip', WHERE WHAT IT READS IS OF BULK AT MOST 1048576: true; the input reads as it did. -/
def xmlwriteRoundTripUptoRow : OpenClaim := { program := "ytppmoeidgefkpaagreatdoor", sum := "e793c82d9dc7e1e7dd037e7160efb5fa809bdf2b578b3eaf930dc4af0389555f", func := "feedvault/feedvaultlaw09.XmlwriteRoundTrip", spec := "xmlwriteRoundTrip", inPlace := ["internal/abi.NoEscape", "internal/bytealg.IndexByteString", "internal/bytealg.IndexString", "internal/bytealg.CountString", "internal/bytealg.MakeNoZero"], unfollowed := true, recurses := true, named := ["unicode/utf8.first", "unicode/utf8.acceptRanges", "feedvault/text.nameSpans", "internal/bytealg.MaxLen", "feedvault/xmlescape.names"], loops := true, apart := false, laid := [("unicode/utf8.acceptRanges", laid_unicode_utf8_acceptRanges), ("feedvault/text.nameSpans", laid_feedvault_text_nameSpans), ("feedvault/xmlescape.names", laid_feedvault_xmlescape_names), ("unicode/utf8.first", laid_unicode_utf8_first)], narrowed := true }
def XmlwriteRoundTripUptoSaid : Prop := xmlwriteRoundTripUptoRow.holds Tryz.pinned (OpenSpec.upto xmlwriteRoundTripSpec)

/-- 'feedvaultlaw09.XmlwriteParsed', WHERE WHAT IT READS IS OF BULK AT MOST 1048576: true; the input reads as it did. -/
def xmlwriteParsedUptoRow : OpenClaim := { program := "ytppmoeidgefkpaagreatdoor", sum := "e793c82d9dc7e1e7dd037e7160efb5fa809bdf2b578b3eaf930dc4af0389555f", func := "feedvault/feedvaultlaw09.XmlwriteParsed", spec := "xmlwriteParsed", inPlace := ["internal/abi.NoEscape", "internal/bytealg.IndexByteString", "internal/bytealg.IndexString", "internal/bytealg.CountString", "internal/bytealg.MakeNoZero"], unfollowed := true, recurses := true, named := ["unicode/utf8.first", "unicode/utf8.acceptRanges", "feedvault/text.nameSpans", "internal/bytealg.MaxLen", "feedvault/xmlescape.names"], apart := false, laid := [("unicode/utf8.acceptRanges", laid_unicode_utf8_acceptRanges), ("feedvault/text.nameSpans", laid_feedvault_text_nameSpans), ("feedvault/xmlescape.names", laid_feedvault_xmlescape_names), ("unicode/utf8.first", laid_unicode_utf8_first)], narrowed := true }
def XmlwriteParsedUptoSaid : Prop := xmlwriteParsedUptoRow.holds Tryz.pinned (OpenSpec.upto xmlwriteParsedSpec)

end Rows
end Go.Proofs.YtppmoeidgefkpaaGreatDoor
