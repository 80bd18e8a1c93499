/-
  NARROWER THAN 'FOR EVERY INPUT', by the rows' own cells (each row's printed sentence says how): XmlwriteMatchesReference: loops, laid · XmlwriteBuilds: loops, laid · XmlwriteIsInjective: loops, laid · XmlwriteDepth: laid.
  DERIVED. THE GIVEN ROWS OF THIS SEAT. 4 by the template 'for every input the law returns true; each argument reads behind the call as it read before'; 0 by the template 'total and deterministic' (their statements: YtppmoeidgefkpaaDoorTotals.lean).
  GIVEN WITH THE SEED: the statements are not yours to turn. If you find one false, say at which input.
  Laid BY PROGRAM, IN A SANDBOX (cutbox-rows.mjs): the forced cells as the released guide's own fill.sh prints them over the translation 802a0173c0db7302… (all of the seat's roots in one cut). By AI agents, Wed Nov 11 2026. No macro, syntax, notation, axiom, sorry.
-/
import Derived.Test.YtppmoeidgefkpaaDoorChecked
import GoSem.PinnedTables
import GoSem.Claim
import GoSem.ClaimJoined
import GoSem.ClaimMapViews
import Derived.JoinedTies
import Derived.KernelRfl
namespace Go.Proofs.YtppmoeidgefkpaaDoor
/- THE CELL 'sum', in the pinned program and in every row, IS THE sha256 OF THE DUMP (.gsa) THAT YtppmoeidgefkpaaDoorProg.lean LOADS. Nothing in Lean hashes anything: it is a label: what it is worth is what the hold of that sum in a sandbox is worth. -/
noncomputable def Tryd.pinned : Pinned := { name := "ytppmoeidgefkpaadoor", sum := "802a0173c0db730206240055df96b3e3dd5b82382bb3fd89c68ede1b4f612ba9", checked := Tryd.checked }
namespace Rows
def none {H : Type} : Left H := { results := [], args := [] }

/- WHAT THE LISTED PACKAGE-LEVEL VARIABLES READ AS WHEN THE CALL BEGINS. Each datum BY PROGRAM (the guide's laid-datum.mjs) off the statement by which the dump's own 'gosem.cut.vars' lays the variable. In a bare row this is a premise. The card (YtppmoeidgefkpaaDoorCards.lean) ties it to the program's text. -/
def laid_unicode_utf8_acceptRanges {H : Type} : DataW H := .agg [.agg [.lit (.int .u8 128), .lit (.int .u8 191)], .agg [.lit (.int .u8 160), .lit (.int .u8 191)], .agg [.lit (.int .u8 128), .lit (.int .u8 159)], .agg [.lit (.int .u8 144), .lit (.int .u8 191)], .agg [.lit (.int .u8 128), .lit (.int .u8 143)], .agg [.lit (.int .u8 0), .lit (.int .u8 0)], .agg [.lit (.int .u8 0), .lit (.int .u8 0)], .agg [.lit (.int .u8 0), .lit (.int .u8 0)], .agg [.lit (.int .u8 0), .lit (.int .u8 0)], .agg [.lit (.int .u8 0), .lit (.int .u8 0)], .agg [.lit (.int .u8 0), .lit (.int .u8 0)], .agg [.lit (.int .u8 0), .lit (.int .u8 0)], .agg [.lit (.int .u8 0), .lit (.int .u8 0)], .agg [.lit (.int .u8 0), .lit (.int .u8 0)], .agg [.lit (.int .u8 0), .lit (.int .u8 0)], .agg [.lit (.int .u8 0), .lit (.int .u8 0)]]
def laid_feedvault_text_nameSpans {H : Type} : DataW H := .slice [.agg [.lit (.int .i32 45), .lit (.int .i32 46), .lit (.bool false)], .agg [.lit (.int .i32 48), .lit (.int .i32 57), .lit (.bool false)], .agg [.lit (.int .i32 65), .lit (.int .i32 90), .lit (.bool true)], .agg [.lit (.int .i32 95), .lit (.int .i32 95), .lit (.bool true)], .agg [.lit (.int .i32 97), .lit (.int .i32 122), .lit (.bool true)], .agg [.lit (.int .i32 183), .lit (.int .i32 183), .lit (.bool false)], .agg [.lit (.int .i32 192), .lit (.int .i32 214), .lit (.bool true)], .agg [.lit (.int .i32 216), .lit (.int .i32 246), .lit (.bool true)], .agg [.lit (.int .i32 248), .lit (.int .i32 767), .lit (.bool true)], .agg [.lit (.int .i32 768), .lit (.int .i32 879), .lit (.bool false)], .agg [.lit (.int .i32 880), .lit (.int .i32 893), .lit (.bool true)], .agg [.lit (.int .i32 895), .lit (.int .i32 8191), .lit (.bool true)], .agg [.lit (.int .i32 8204), .lit (.int .i32 8205), .lit (.bool true)], .agg [.lit (.int .i32 8255), .lit (.int .i32 8256), .lit (.bool false)], .agg [.lit (.int .i32 8304), .lit (.int .i32 8591), .lit (.bool true)], .agg [.lit (.int .i32 11264), .lit (.int .i32 12271), .lit (.bool true)], .agg [.lit (.int .i32 12289), .lit (.int .i32 55295), .lit (.bool true)], .agg [.lit (.int .i32 63744), .lit (.int .i32 64975), .lit (.bool true)], .agg [.lit (.int .i32 65008), .lit (.int .i32 65533), .lit (.bool true)], .agg [.lit (.int .i32 65536), .lit (.int .i32 983039), .lit (.bool true)]] []
/-- One of Go's own tables, pinned by name: the form's constant. -/
def laid_unicode_utf8_first : DataW Unit := Go.Pinned.utf8First

/-- 'feedvaultlaw09.XmlwriteMatchesReference': WHATEVER THE INPUT: true; the input reads as it did. -/
def xmlwriteMatchesReferenceSpec : ChangeSpec := { name := "xmlwriteMatchesReference", fn := fun _ => fun
  | [d] => { results := [.lit (.bool true)], args := [d] }
  | _ => none }
def xmlwriteMatchesReferenceRow : OpenClaim := { program := "ytppmoeidgefkpaadoor", sum := "802a0173c0db730206240055df96b3e3dd5b82382bb3fd89c68ede1b4f612ba9", func := "feedvault/feedvaultlaw09.XmlwriteMatchesReference", spec := "xmlwriteMatchesReference", inPlace := ["internal/abi.NoEscape"], unfollowed := true, recurses := true, named := ["unicode/utf8.first", "unicode/utf8.acceptRanges", "feedvault/text.nameSpans"], loops := true, apart := false, laid := [("unicode/utf8.acceptRanges", laid_unicode_utf8_acceptRanges), ("feedvault/text.nameSpans", laid_feedvault_text_nameSpans), ("unicode/utf8.first", laid_unicode_utf8_first)] }
def XmlwriteMatchesReferenceSaid : Prop := xmlwriteMatchesReferenceRow.holds Tryd.pinned (OpenSpec.ofChange xmlwriteMatchesReferenceSpec)

/-- ITS FALSE NEIGHBOUR: 'it returns false'. Refute it at one input. -/
def xmlwriteMatchesReferenceWrong : ChangeSpec := { name := "xmlwriteMatchesReference", fn := fun _ => fun
  | [d] => { results := [.lit (.bool false)], args := [d] }
  | _ => none }
def XmlwriteMatchesReferenceWrongFalsely : Prop := xmlwriteMatchesReferenceRow.holds Tryd.pinned (OpenSpec.ofChange xmlwriteMatchesReferenceWrong)

/-- 'feedvaultlaw09.XmlwriteBuilds': WHATEVER THE INPUT: true; the input reads as it did. -/
def xmlwriteBuildsSpec : ChangeSpec := { name := "xmlwriteBuilds", fn := fun _ => fun
  | [d1, d2, d3] => { results := [.lit (.bool true)], args := [d1, d2, d3] }
  | _ => none }
def xmlwriteBuildsRow : OpenClaim := { program := "ytppmoeidgefkpaadoor", sum := "802a0173c0db730206240055df96b3e3dd5b82382bb3fd89c68ede1b4f612ba9", func := "feedvault/feedvaultlaw09.XmlwriteBuilds", spec := "xmlwriteBuilds", inPlace := ["internal/abi.NoEscape"], unfollowed := true, recurses := true, named := ["unicode/utf8.first", "unicode/utf8.acceptRanges", "feedvault/text.nameSpans"], loops := true, apart := false, laid := [("unicode/utf8.acceptRanges", laid_unicode_utf8_acceptRanges), ("feedvault/text.nameSpans", laid_feedvault_text_nameSpans), ("unicode/utf8.first", laid_unicode_utf8_first)] }
def XmlwriteBuildsSaid : Prop := xmlwriteBuildsRow.holds Tryd.pinned (OpenSpec.ofChange xmlwriteBuildsSpec)

/-- ITS FALSE NEIGHBOUR: 'it returns false'. Refute it at one input. -/
def xmlwriteBuildsWrong : ChangeSpec := { name := "xmlwriteBuilds", fn := fun _ => fun
  | [d1, d2, d3] => { results := [.lit (.bool false)], args := [d1, d2, d3] }
  | _ => none }
def XmlwriteBuildsWrongFalsely : Prop := xmlwriteBuildsRow.holds Tryd.pinned (OpenSpec.ofChange xmlwriteBuildsWrong)

/-- 'feedvaultlaw09.XmlwriteIsInjective': WHATEVER THE INPUT: true; the input reads as it did. -/
def xmlwriteIsInjectiveSpec : ChangeSpec := { name := "xmlwriteIsInjective", fn := fun _ => fun
  | [d1, d2] => { results := [.lit (.bool true)], args := [d1, d2] }
  | _ => none }
def xmlwriteIsInjectiveRow : OpenClaim := { program := "ytppmoeidgefkpaadoor", sum := "802a0173c0db730206240055df96b3e3dd5b82382bb3fd89c68ede1b4f612ba9", func := "feedvault/feedvaultlaw09.XmlwriteIsInjective", spec := "xmlwriteIsInjective", inPlace := ["internal/abi.NoEscape"], unfollowed := true, recurses := true, named := ["unicode/utf8.first", "unicode/utf8.acceptRanges", "feedvault/text.nameSpans"], loops := true, apart := false, laid := [("unicode/utf8.acceptRanges", laid_unicode_utf8_acceptRanges), ("feedvault/text.nameSpans", laid_feedvault_text_nameSpans), ("unicode/utf8.first", laid_unicode_utf8_first)] }
def XmlwriteIsInjectiveSaid : Prop := xmlwriteIsInjectiveRow.holds Tryd.pinned (OpenSpec.ofChange xmlwriteIsInjectiveSpec)

/-- ITS FALSE NEIGHBOUR: 'it returns false'. Refute it at one input. -/
def xmlwriteIsInjectiveWrong : ChangeSpec := { name := "xmlwriteIsInjective", fn := fun _ => fun
  | [d1, d2] => { results := [.lit (.bool false)], args := [d1, d2] }
  | _ => none }
def XmlwriteIsInjectiveWrongFalsely : Prop := xmlwriteIsInjectiveRow.holds Tryd.pinned (OpenSpec.ofChange xmlwriteIsInjectiveWrong)

/-- 'feedvaultlaw09.XmlwriteDepth': WHATEVER THE INPUT: true; the input reads as it did. -/
def xmlwriteDepthSpec : ChangeSpec := { name := "xmlwriteDepth", fn := fun _ => fun
  | [d] => { results := [.lit (.bool true)], args := [d] }
  | _ => none }
def xmlwriteDepthRow : OpenClaim := { program := "ytppmoeidgefkpaadoor", sum := "802a0173c0db730206240055df96b3e3dd5b82382bb3fd89c68ede1b4f612ba9", func := "feedvault/feedvaultlaw09.XmlwriteDepth", spec := "xmlwriteDepth", inPlace := ["internal/abi.NoEscape"], unfollowed := true, recurses := true, named := ["unicode/utf8.first", "unicode/utf8.acceptRanges", "feedvault/text.nameSpans"], apart := false, laid := [("unicode/utf8.acceptRanges", laid_unicode_utf8_acceptRanges), ("feedvault/text.nameSpans", laid_feedvault_text_nameSpans), ("unicode/utf8.first", laid_unicode_utf8_first)] }
def XmlwriteDepthSaid : Prop := xmlwriteDepthRow.holds Tryd.pinned (OpenSpec.ofChange xmlwriteDepthSpec)

/-- ITS FALSE NEIGHBOUR: 'it returns false'. Refute it at one input. -/
def xmlwriteDepthWrong : ChangeSpec := { name := "xmlwriteDepth", fn := fun _ => fun
  | [d] => { results := [.lit (.bool false)], args := [d] }
  | _ => none }
def XmlwriteDepthWrongFalsely : Prop := xmlwriteDepthRow.holds Tryd.pinned (OpenSpec.ofChange xmlwriteDepthWrong)

/- THE SECOND FORM. 'bulk': how many values and letters a reading holds, each counted each time it is reached (what is shared counts as often as it is met; a slice's spare places count too). A statement '..UptoSaid' is the law's where the arguments, and the package variables that the reading takes, are together of bulk at most 1048576: NARROWER than '..Said'. Prove '..Said' where nothing that the law and all that it calls make is longer than what came in: it says more and counts as full. Else prove '..UptoSaid'. A law counts once. -/
mutual
def uptoBulk {H : Type} : DataW H → Nat
  | .lit (.string bytes) => bytes.length + 1
  | .lit _ => 1
  | .nil => 1
  | .ptr d => uptoBulk d + 1
  | .slice elems spare => uptoBulkAll elems + uptoBulkAll spare + 1
  | .agg parts => uptoBulkAll parts + 1
  | .iface _ d => uptoBulk d + 1
  | .map entries => uptoBulkEntries entries + 1
  | .held _ => 1
def uptoBulkAll {H : Type} : List (DataW H) → Nat
  | [] => 0
  | d :: r => uptoBulk d + uptoBulkAll r
def uptoBulkEntries {H : Type} : List (Lit × DataW H) → Nat
  | [] => 0
  | x :: r => uptoBulkEntry x + uptoBulkEntries r
def uptoBulkEntry {H : Type} : Lit × DataW H → Nat
  | (.string bytes, d) => bytes.length + uptoBulk d + 1
  | (_, d) => uptoBulk d + 1
 end
def uptoSmall : (H : Type) → List (DataW H) → Bool := fun _ ds => decide (uptoBulkAll ds ≤ 1048576)
def OpenSpec.upto (s : _root_.Go.ChangeSpec) : _root_.Go.OpenSpec := { _root_.Go.OpenSpec.ofChange s with cond := some uptoSmall }

/-- 'feedvaultlaw09.XmlwriteMatchesReference', WHERE WHAT IT READS IS OF BULK AT MOST 1048576: true; the input reads as it did. -/
def xmlwriteMatchesReferenceUptoRow : OpenClaim := { program := "ytppmoeidgefkpaadoor", sum := "802a0173c0db730206240055df96b3e3dd5b82382bb3fd89c68ede1b4f612ba9", func := "feedvault/feedvaultlaw09.XmlwriteMatchesReference", spec := "xmlwriteMatchesReference", inPlace := ["internal/abi.NoEscape"], unfollowed := true, recurses := true, named := ["unicode/utf8.first", "unicode/utf8.acceptRanges", "feedvault/text.nameSpans"], loops := true, apart := false, laid := [("unicode/utf8.acceptRanges", laid_unicode_utf8_acceptRanges), ("feedvault/text.nameSpans", laid_feedvault_text_nameSpans), ("unicode/utf8.first", laid_unicode_utf8_first)], narrowed := true }
def XmlwriteMatchesReferenceUptoSaid : Prop := xmlwriteMatchesReferenceUptoRow.holds Tryd.pinned (OpenSpec.upto xmlwriteMatchesReferenceSpec)

/-- 'feedvaultlaw09.XmlwriteBuilds', WHERE WHAT IT READS IS OF BULK AT MOST 1048576: true; the input reads as it did. -/
def xmlwriteBuildsUptoRow : OpenClaim := { program := "ytppmoeidgefkpaadoor", sum := "802a0173c0db730206240055df96b3e3dd5b82382bb3fd89c68ede1b4f612ba9", func := "feedvault/feedvaultlaw09.XmlwriteBuilds", spec := "xmlwriteBuilds", inPlace := ["internal/abi.NoEscape"], unfollowed := true, recurses := true, named := ["unicode/utf8.first", "unicode/utf8.acceptRanges", "feedvault/text.nameSpans"], loops := true, apart := false, laid := [("unicode/utf8.acceptRanges", laid_unicode_utf8_acceptRanges), ("feedvault/text.nameSpans", laid_feedvault_text_nameSpans), ("unicode/utf8.first", laid_unicode_utf8_first)], narrowed := true }
def XmlwriteBuildsUptoSaid : Prop := xmlwriteBuildsUptoRow.holds Tryd.pinned (OpenSpec.upto xmlwriteBuildsSpec)

/-- 'feedvaultlaw09.XmlwriteIsInjective', WHERE WHAT IT READS IS OF BULK AT MOST 1048576: true; the input reads as it did. -/
def xmlwriteIsInjectiveUptoRow : OpenClaim := { program := "ytppmoeidgefkpaadoor", sum := "802a0173c0db730206240055df96b3e3dd5b82382bb3fd89c68ede1b4f612ba9", func := "feedvault/feedvaultlaw09.XmlwriteIsInjective", spec := "xmlwriteIsInjective", inPlace := ["internal/abi.NoEscape"], unfollowed := true, recurses := true, named := ["unicode/utf8.first", "unicode/utf8.acceptRanges", "feedvault/text.nameSpans"], loops := true, apart := false, laid := [("unicode/utf8.acceptRanges", laid_unicode_utf8_acceptRanges), ("feedvault/text.nameSpans", laid_feedvault_text_nameSpans), ("unicode/utf8.first", laid_unicode_utf8_first)], narrowed := true }
def XmlwriteIsInjectiveUptoSaid : Prop := xmlwriteIsInjectiveUptoRow.holds Tryd.pinned (OpenSpec.upto xmlwriteIsInjectiveSpec)

/-- 'feedvaultlaw09.XmlwriteDepth', WHERE WHAT IT READS IS OF BULK AT MOST 1048576: true; the input reads as it did. -/
def xmlwriteDepthUptoRow : OpenClaim := { program := "ytppmoeidgefkpaadoor", sum := "802a0173c0db730206240055df96b3e3dd5b82382bb3fd89c68ede1b4f612ba9", func := "feedvault/feedvaultlaw09.XmlwriteDepth", spec := "xmlwriteDepth", inPlace := ["internal/abi.NoEscape"], unfollowed := true, recurses := true, named := ["unicode/utf8.first", "unicode/utf8.acceptRanges", "feedvault/text.nameSpans"], apart := false, laid := [("unicode/utf8.acceptRanges", laid_unicode_utf8_acceptRanges), ("feedvault/text.nameSpans", laid_feedvault_text_nameSpans), ("unicode/utf8.first", laid_unicode_utf8_first)], narrowed := true }
def XmlwriteDepthUptoSaid : Prop := xmlwriteDepthUptoRow.holds Tryd.pinned (OpenSpec.upto xmlwriteDepthSpec)

end Rows
end Go.Proofs.YtppmoeidgefkpaaDoor
