/-
  NARROWER THAN 'FOR EVERY INPUT', by the rows' own cells (each row's printed sentence says how): XmlnsSplits: laid · XmlnsMatchesReference: laid · XmlnsScopes: laid · XmlnsDuplicates: laid · XmlnsIsolated: laid · XmlnsChildren: loops, laid.
  DERIVED. THE GIVEN ROWS OF THIS SEAT. 6 by the template 'for every input the law returns true; each argument reads behind the call as it read before'; 0 by the template 'total and deterministic' (their statements: YtoehcholbcchcaaDoorTotals.lean).
  GIVEN WITH THE SEED: the statements are not yours to turn. If you find one false, say at which input.
  Laid BY PROGRAM, IN A SANDBOX (cutbox-rows.mjs): the forced cells as the released guide's own fill.sh prints them over the translation 641128d35fa793d9… (all of the seat's roots in one cut). By AI agents, Wed Nov 11 2026. No macro, syntax, notation, axiom, sorry.
-/
import Derived.Test.YtoehcholbcchcaaDoorChecked
import GoSem.PinnedTables
import GoSem.Claim
import GoSem.ClaimJoined
import GoSem.ClaimMapViews
import Derived.JoinedTies
import Derived.KernelRfl
namespace Go.Proofs.YtoehcholbcchcaaDoor
/- THE CELL 'sum', in the pinned program and in every row, IS THE sha256 OF THE DUMP (.gsa) THAT YtoehcholbcchcaaDoorProg.lean LOADS. Nothing in Lean hashes anything: it is a label: what it is worth is what the hold of that sum in a sandbox is worth. -/
noncomputable def Tryd.pinned : Pinned := { name := "ytoehcholbcchcaadoor", sum := "641128d35fa793d9627e80b4f65b14e84e9c73903018a8d58aec865ea5abe100", checked := Tryd.checked }
namespace Rows
def none {H : Type} : Left H := { results := [], args := [] }

/- WHAT THE LISTED PACKAGE-LEVEL VARIABLES READ AS WHEN THE CALL BEGINS. Each datum BY PROGRAM (the guide's laid-datum.mjs) off the statement by which the dump's own 'gosem.cut.vars' lays the variable. In a bare row this is a premise. The card (YtoehcholbcchcaaDoorCards.lean) ties it to the program's text. -/
def laid_unicode_utf8_acceptRanges {H : Type} : DataW H := .agg [.agg [.lit (.int .u8 128), .lit (.int .u8 191)], .agg [.lit (.int .u8 160), .lit (.int .u8 191)], .agg [.lit (.int .u8 128), .lit (.int .u8 159)], .agg [.lit (.int .u8 144), .lit (.int .u8 191)], .agg [.lit (.int .u8 128), .lit (.int .u8 143)], .agg [.lit (.int .u8 0), .lit (.int .u8 0)], .agg [.lit (.int .u8 0), .lit (.int .u8 0)], .agg [.lit (.int .u8 0), .lit (.int .u8 0)], .agg [.lit (.int .u8 0), .lit (.int .u8 0)], .agg [.lit (.int .u8 0), .lit (.int .u8 0)], .agg [.lit (.int .u8 0), .lit (.int .u8 0)], .agg [.lit (.int .u8 0), .lit (.int .u8 0)], .agg [.lit (.int .u8 0), .lit (.int .u8 0)], .agg [.lit (.int .u8 0), .lit (.int .u8 0)], .agg [.lit (.int .u8 0), .lit (.int .u8 0)], .agg [.lit (.int .u8 0), .lit (.int .u8 0)]]
def laid_feedvault_text_nameSpans {H : Type} : DataW H := .slice [.agg [.lit (.int .i32 45), .lit (.int .i32 46), .lit (.bool false)], .agg [.lit (.int .i32 48), .lit (.int .i32 57), .lit (.bool false)], .agg [.lit (.int .i32 65), .lit (.int .i32 90), .lit (.bool true)], .agg [.lit (.int .i32 95), .lit (.int .i32 95), .lit (.bool true)], .agg [.lit (.int .i32 97), .lit (.int .i32 122), .lit (.bool true)], .agg [.lit (.int .i32 183), .lit (.int .i32 183), .lit (.bool false)], .agg [.lit (.int .i32 192), .lit (.int .i32 214), .lit (.bool true)], .agg [.lit (.int .i32 216), .lit (.int .i32 246), .lit (.bool true)], .agg [.lit (.int .i32 248), .lit (.int .i32 767), .lit (.bool true)], .agg [.lit (.int .i32 768), .lit (.int .i32 879), .lit (.bool false)], .agg [.lit (.int .i32 880), .lit (.int .i32 893), .lit (.bool true)], .agg [.lit (.int .i32 895), .lit (.int .i32 8191), .lit (.bool true)], .agg [.lit (.int .i32 8204), .lit (.int .i32 8205), .lit (.bool true)], .agg [.lit (.int .i32 8255), .lit (.int .i32 8256), .lit (.bool false)], .agg [.lit (.int .i32 8304), .lit (.int .i32 8591), .lit (.bool true)], .agg [.lit (.int .i32 11264), .lit (.int .i32 12271), .lit (.bool true)], .agg [.lit (.int .i32 12289), .lit (.int .i32 55295), .lit (.bool true)], .agg [.lit (.int .i32 63744), .lit (.int .i32 64975), .lit (.bool true)], .agg [.lit (.int .i32 65008), .lit (.int .i32 65533), .lit (.bool true)], .agg [.lit (.int .i32 65536), .lit (.int .i32 983039), .lit (.bool true)]] []
/-- One of Go's own tables, pinned by name: the form's constant. -/
def laid_unicode_utf8_first : DataW Unit := Go.Pinned.utf8First

/-- 'feedvaultlaw08.XmlnsSplits': WHATEVER THE INPUT: true; the input reads as it did. -/
def xmlnsSplitsSpec : ChangeSpec := { name := "xmlnsSplits", fn := fun _ => fun
  | [d] => { results := [.lit (.bool true)], args := [d] }
  | _ => none }
def xmlnsSplitsRow : OpenClaim := { program := "ytoehcholbcchcaadoor", sum := "641128d35fa793d9627e80b4f65b14e84e9c73903018a8d58aec865ea5abe100", func := "feedvault/feedvaultlaw08.XmlnsSplits", spec := "xmlnsSplits", inPlace := ["internal/bytealg.IndexByteString", "internal/bytealg.IndexString"], unfollowed := true, recurses := true, named := ["internal/bytealg.MaxLen", "unicode/utf8.first", "unicode/utf8.acceptRanges", "feedvault/text.nameSpans"], plainKeys := false, apart := false, laid := [("unicode/utf8.acceptRanges", laid_unicode_utf8_acceptRanges), ("feedvault/text.nameSpans", laid_feedvault_text_nameSpans), ("unicode/utf8.first", laid_unicode_utf8_first)] }
def XmlnsSplitsSaid : Prop := xmlnsSplitsRow.holds Tryd.pinned (OpenSpec.ofChange xmlnsSplitsSpec)

/-- ITS FALSE NEIGHBOUR: 'it returns false'. Refute it at one input. -/
def xmlnsSplitsWrong : ChangeSpec := { name := "xmlnsSplits", fn := fun _ => fun
  | [d] => { results := [.lit (.bool false)], args := [d] }
  | _ => none }
def XmlnsSplitsWrongFalsely : Prop := xmlnsSplitsRow.holds Tryd.pinned (OpenSpec.ofChange xmlnsSplitsWrong)

/-- 'feedvaultlaw08.XmlnsMatchesReference': WHATEVER THE INPUT: true; the input reads as it did. -/
def xmlnsMatchesReferenceSpec : ChangeSpec := { name := "xmlnsMatchesReference", fn := fun _ => fun
  | [d] => { results := [.lit (.bool true)], args := [d] }
  | _ => none }
def xmlnsMatchesReferenceRow : OpenClaim := { program := "ytoehcholbcchcaadoor", sum := "641128d35fa793d9627e80b4f65b14e84e9c73903018a8d58aec865ea5abe100", func := "feedvault/feedvaultlaw08.XmlnsMatchesReference", spec := "xmlnsMatchesReference", inPlace := ["internal/bytealg.IndexByteString", "internal/bytealg.IndexString"], unfollowed := true, recurses := true, named := ["internal/bytealg.MaxLen", "unicode/utf8.first", "unicode/utf8.acceptRanges", "feedvault/text.nameSpans"], plainKeys := false, apart := false, laid := [("unicode/utf8.acceptRanges", laid_unicode_utf8_acceptRanges), ("feedvault/text.nameSpans", laid_feedvault_text_nameSpans), ("unicode/utf8.first", laid_unicode_utf8_first)] }
def XmlnsMatchesReferenceSaid : Prop := xmlnsMatchesReferenceRow.holds Tryd.pinned (OpenSpec.ofChange xmlnsMatchesReferenceSpec)

/-- ITS FALSE NEIGHBOUR: 'it returns false'. Refute it at one input. -/
def xmlnsMatchesReferenceWrong : ChangeSpec := { name := "xmlnsMatchesReference", fn := fun _ => fun
  | [d] => { results := [.lit (.bool false)], args := [d] }
  | _ => none }
def XmlnsMatchesReferenceWrongFalsely : Prop := xmlnsMatchesReferenceRow.holds Tryd.pinned (OpenSpec.ofChange xmlnsMatchesReferenceWrong)

/-- 'feedvaultlaw08.XmlnsScopes': WHATEVER THE INPUT: true; the input reads as it did. -/
def xmlnsScopesSpec : ChangeSpec := { name := "xmlnsScopes", fn := fun _ => fun
  | [d1, d2] => { results := [.lit (.bool true)], args := [d1, d2] }
  | _ => none }
def xmlnsScopesRow : OpenClaim := { program := "ytoehcholbcchcaadoor", sum := "641128d35fa793d9627e80b4f65b14e84e9c73903018a8d58aec865ea5abe100", func := "feedvault/feedvaultlaw08.XmlnsScopes", spec := "xmlnsScopes", inPlace := ["internal/abi.NoEscape", "internal/bytealg.MakeNoZero", "internal/bytealg.IndexByteString", "internal/bytealg.IndexString"], unfollowed := true, recurses := true, named := ["internal/bytealg.MaxLen", "unicode/utf8.first", "unicode/utf8.acceptRanges", "feedvault/text.nameSpans"], plainKeys := false, apart := false, laid := [("unicode/utf8.acceptRanges", laid_unicode_utf8_acceptRanges), ("feedvault/text.nameSpans", laid_feedvault_text_nameSpans), ("unicode/utf8.first", laid_unicode_utf8_first)] }
def XmlnsScopesSaid : Prop := xmlnsScopesRow.holds Tryd.pinned (OpenSpec.ofChange xmlnsScopesSpec)

/-- ITS FALSE NEIGHBOUR: 'it returns false'. Refute it at one input. -/
def xmlnsScopesWrong : ChangeSpec := { name := "xmlnsScopes", fn := fun _ => fun
  | [d1, d2] => { results := [.lit (.bool false)], args := [d1, d2] }
  | _ => none }
def XmlnsScopesWrongFalsely : Prop := xmlnsScopesRow.holds Tryd.pinned (OpenSpec.ofChange xmlnsScopesWrong)

/-- 'feedvaultlaw08.XmlnsDuplicates': WHATEVER THE INPUT: true; the input reads as it did. -/
def xmlnsDuplicatesSpec : ChangeSpec := { name := "xmlnsDuplicates", fn := fun _ => fun
  | [d1, d2, d3] => { results := [.lit (.bool true)], args := [d1, d2, d3] }
  | _ => none }
def xmlnsDuplicatesRow : OpenClaim := { program := "ytoehcholbcchcaadoor", sum := "641128d35fa793d9627e80b4f65b14e84e9c73903018a8d58aec865ea5abe100", func := "feedvault/feedvaultlaw08.XmlnsDuplicates", spec := "xmlnsDuplicates", inPlace := ["internal/bytealg.IndexByteString", "internal/bytealg.IndexString"], unfollowed := true, recurses := true, named := ["internal/bytealg.MaxLen", "unicode/utf8.first", "unicode/utf8.acceptRanges", "feedvault/text.nameSpans"], plainKeys := false, apart := false, laid := [("unicode/utf8.acceptRanges", laid_unicode_utf8_acceptRanges), ("feedvault/text.nameSpans", laid_feedvault_text_nameSpans), ("unicode/utf8.first", laid_unicode_utf8_first)] }
def XmlnsDuplicatesSaid : Prop := xmlnsDuplicatesRow.holds Tryd.pinned (OpenSpec.ofChange xmlnsDuplicatesSpec)

/-- ITS FALSE NEIGHBOUR: 'it returns false'. Refute it at one input. -/
def xmlnsDuplicatesWrong : ChangeSpec := { name := "xmlnsDuplicates", fn := fun _ => fun
  | [d1, d2, d3] => { results := [.lit (.bool false)], args := [d1, d2, d3] }
  | _ => none }
def XmlnsDuplicatesWrongFalsely : Prop := xmlnsDuplicatesRow.holds Tryd.pinned (OpenSpec.ofChange xmlnsDuplicatesWrong)

/-- 'feedvaultlaw08.XmlnsIsolated': WHATEVER THE INPUT: true; the input reads as it did. -/
def xmlnsIsolatedSpec : ChangeSpec := { name := "xmlnsIsolated", fn := fun _ => fun
  | [d] => { results := [.lit (.bool true)], args := [d] }
  | _ => none }
def xmlnsIsolatedRow : OpenClaim := { program := "ytoehcholbcchcaadoor", sum := "641128d35fa793d9627e80b4f65b14e84e9c73903018a8d58aec865ea5abe100", func := "feedvault/feedvaultlaw08.XmlnsIsolated", spec := "xmlnsIsolated", inPlace := ["internal/bytealg.IndexByteString", "internal/bytealg.IndexString"], unfollowed := true, recurses := true, named := ["internal/bytealg.MaxLen", "unicode/utf8.first", "unicode/utf8.acceptRanges", "feedvault/text.nameSpans"], plainKeys := false, apart := false, laid := [("unicode/utf8.acceptRanges", laid_unicode_utf8_acceptRanges), ("feedvault/text.nameSpans", laid_feedvault_text_nameSpans), ("unicode/utf8.first", laid_unicode_utf8_first)] }
def XmlnsIsolatedSaid : Prop := xmlnsIsolatedRow.holds Tryd.pinned (OpenSpec.ofChange xmlnsIsolatedSpec)

/-- ITS FALSE NEIGHBOUR: 'it returns false'. Refute it at one input. -/
def xmlnsIsolatedWrong : ChangeSpec := { name := "xmlnsIsolated", fn := fun _ => fun
  | [d] => { results := [.lit (.bool false)], args := [d] }
  | _ => none }
def XmlnsIsolatedWrongFalsely : Prop := xmlnsIsolatedRow.holds Tryd.pinned (OpenSpec.ofChange xmlnsIsolatedWrong)

/-- 'feedvaultlaw08.XmlnsChildren': WHATEVER THE INPUT: true; the input reads as it did. -/
def xmlnsChildrenSpec : ChangeSpec := { name := "xmlnsChildren", fn := fun _ => fun
  | [d1, d2, d3] => { results := [.lit (.bool true)], args := [d1, d2, d3] }
  | _ => none }
def xmlnsChildrenRow : OpenClaim := { program := "ytoehcholbcchcaadoor", sum := "641128d35fa793d9627e80b4f65b14e84e9c73903018a8d58aec865ea5abe100", func := "feedvault/feedvaultlaw08.XmlnsChildren", spec := "xmlnsChildren", inPlace := ["internal/bytealg.IndexByteString", "internal/bytealg.IndexString"], unfollowed := true, recurses := true, named := ["internal/bytealg.MaxLen", "unicode/utf8.first", "unicode/utf8.acceptRanges", "feedvault/text.nameSpans"], loops := true, plainKeys := false, apart := false, laid := [("unicode/utf8.acceptRanges", laid_unicode_utf8_acceptRanges), ("feedvault/text.nameSpans", laid_feedvault_text_nameSpans), ("unicode/utf8.first", laid_unicode_utf8_first)] }
def XmlnsChildrenSaid : Prop := xmlnsChildrenRow.holds Tryd.pinned (OpenSpec.ofChange xmlnsChildrenSpec)

/-- ITS FALSE NEIGHBOUR: 'it returns false'. Refute it at one input. -/
def xmlnsChildrenWrong : ChangeSpec := { name := "xmlnsChildren", fn := fun _ => fun
  | [d1, d2, d3] => { results := [.lit (.bool false)], args := [d1, d2, d3] }
  | _ => none }
def XmlnsChildrenWrongFalsely : Prop := xmlnsChildrenRow.holds Tryd.pinned (OpenSpec.ofChange xmlnsChildrenWrong)

/- THE SECOND FORM. 'bulk': how many values and letters a reading holds, each counted each time it is reached (what is shared counts as often as it is met; a slice's spare places count too). A statement '..UptoSaid' is the law's where the arguments, and the package variables that the reading takes, are together of bulk at most 1048576: NARROWER than '..Said'. Prove '..Said' where nothing that the law and all that it calls make is longer than what came in: it says more and counts as full. Else prove '..UptoSaid'. A law counts once. -/
mutual
def uptoBulk {H : Type} : DataW H → Nat
  | .lit (.string bytes) => bytes.length + 1
  | .lit _ => 1
  | .nil => 1
  | .ptr d => uptoBulk d + 1
  | .slice elems spare => uptoBulkAll elems + uptoBulkAll spare + 1
  | .agg parts => uptoBulkAll parts + 1
  | .iface _ d => uptoBulk d + 1
  | .map entries => uptoBulkEntries entries + 1
  | .held _ => 1
def uptoBulkAll {H : Type} : List (DataW H) → Nat
  | [] => 0
  | d :: r => uptoBulk d + uptoBulkAll r
def uptoBulkEntries {H : Type} : List (Lit × DataW H) → Nat
  | [] => 0
  | x :: r => uptoBulkEntry x + uptoBulkEntries r
def uptoBulkEntry {H : Type} : Lit × DataW H → Nat
  | (.string bytes, d) => bytes.length + uptoBulk d + 1
  | (_, d) => uptoBulk d + 1
 end
def uptoSmall : (H : Type) → List (DataW H) → Bool := fun _ ds => decide (uptoBulkAll ds ≤ 1048576)
def OpenSpec.upto (s : _root_.Go.ChangeSpec) : _root_.Go.OpenSpec := { _root_.Go.OpenSpec.ofChange s with cond := some uptoSmall }

/-- 'feedvaultlaw08.XmlnsSplits', WHERE WHAT IT READS IS OF BULK AT MOST 1048576: true; the input reads as it did. -/
def xmlnsSplitsUptoRow : OpenClaim := { program := "ytoehcholbcchcaadoor", sum := "641128d35fa793d9627e80b4f65b14e84e9c73903018a8d58aec865ea5abe100", func := "feedvault/feedvaultlaw08.XmlnsSplits", spec := "xmlnsSplits", inPlace := ["internal/bytealg.IndexByteString", "internal/bytealg.IndexString"], unfollowed := true, recurses := true, named := ["internal/bytealg.MaxLen", "unicode/utf8.first", "unicode/utf8.acceptRanges", "feedvault/text.nameSpans"], plainKeys := false, apart := false, laid := [("unicode/utf8.acceptRanges", laid_unicode_utf8_acceptRanges), ("feedvault/text.nameSpans", laid_feedvault_text_nameSpans), ("unicode/utf8.first", laid_unicode_utf8_first)], narrowed := true }
def XmlnsSplitsUptoSaid : Prop := xmlnsSplitsUptoRow.holds Tryd.pinned (OpenSpec.upto xmlnsSplitsSpec)

/-- 'feedvaultlaw08.XmlnsMatchesReference', WHERE WHAT IT READS IS OF BULK AT MOST 1048576: true; the input reads as it did. -/
def xmlnsMatchesReferenceUptoRow : OpenClaim := { program := "ytoehcholbcchcaadoor", sum := "641128d35fa793d9627e80b4f65b14e84e9c73903018a8d58aec865ea5abe100", func := "feedvault/feedvaultlaw08.XmlnsMatchesReference", spec := "xmlnsMatchesReference", inPlace := ["internal/bytealg.IndexByteString", "internal/bytealg.IndexString"], unfollowed := true, recurses := true, named := ["internal/bytealg.MaxLen", "unicode/utf8.first", "unicode/utf8.acceptRanges", "feedvault/text.nameSpans"], plainKeys := false, apart := false, laid := [("unicode/utf8.acceptRanges", laid_unicode_utf8_acceptRanges), ("feedvault/text.nameSpans", laid_feedvault_text_nameSpans), ("unicode/utf8.first", laid_unicode_utf8_first)], narrowed := true }
def XmlnsMatchesReferenceUptoSaid : Prop := xmlnsMatchesReferenceUptoRow.holds Tryd.pinned (OpenSpec.upto xmlnsMatchesReferenceSpec)

/-- 'feedvaultlaw08.XmlnsScopes', WHERE WHAT IT READS IS OF BULK AT MOST 1048576: true; the input reads as it did. -/
def xmlnsScopesUptoRow : OpenClaim := { program := "ytoehcholbcchcaadoor", sum := "641128d35fa793d9627e80b4f65b14e84e9c73903018a8d58aec865ea5abe100", func := "feedvault/feedvaultlaw08.XmlnsScopes", spec := "xmlnsScopes", inPlace := ["internal/abi.NoEscape", "internal/bytealg.MakeNoZero", "internal/bytealg.IndexByteString", "internal/bytealg.IndexString"], unfollowed := true, recurses := true, named := ["internal/bytealg.MaxLen", "unicode/utf8.first", "unicode/utf8.acceptRanges", "feedvault/text.nameSpans"], plainKeys := false, apart := false, laid := [("unicode/utf8.acceptRanges", laid_unicode_utf8_acceptRanges), ("feedvault/text.nameSpans", laid_feedvault_text_nameSpans), ("unicode/utf8.first", laid_unicode_utf8_first)], narrowed := true }
def XmlnsScopesUptoSaid : Prop := xmlnsScopesUptoRow.holds Tryd.pinned (OpenSpec.upto xmlnsScopesSpec)

/-- 'feedvaultlaw08.XmlnsDuplicates', WHERE WHAT IT READS IS OF BULK AT MOST 1048576: true; the input reads as it did. -/
def xmlnsDuplicatesUptoRow : OpenClaim := { program := "ytoehcholbcchcaadoor", sum := "641128d35fa793d9627e80b4f65b14e84e9c73903018a8d58aec865ea5abe100", func := "feedvault/feedvaultlaw08.XmlnsDuplicates", spec := "xmlnsDuplicates", inPlace := ["internal/bytealg.IndexByteString", "internal/bytealg.IndexString"], unfollowed := true, recurses := true, named := ["internal/bytealg.MaxLen", "unicode/utf8.first", "unicode/utf8.acceptRanges", "feedvault/text.nameSpans"], plainKeys := false, apart := false, laid := [("unicode/utf8.acceptRanges", laid_unicode_utf8_acceptRanges), ("feedvault/text.nameSpans", laid_feedvault_text_nameSpans), ("unicode/utf8.first", laid_unicode_utf8_first)], narrowed := true }
def XmlnsDuplicatesUptoSaid : Prop := xmlnsDuplicatesUptoRow.holds Tryd.pinned (OpenSpec.upto xmlnsDuplicatesSpec)

/-- 'feedvaultlaw08.XmlnsIsolated', WHERE WHAT IT READS IS OF BULK AT MOST 1048576: true; the input reads as it did. -/
def xmlnsIsolatedUptoRow : OpenClaim := { program := "ytoehcholbcchcaadoor", sum := "641128d35fa793d9627e80b4f65b14e84e9c73903018a8d58aec865ea5abe100", func := "feedvault/feedvaultlaw08.XmlnsIsolated", spec := "xmlnsIsolated", inPlace := ["internal/bytealg.IndexByteString", "internal/bytealg.IndexString"], unfollowed := true, recurses := true, named := ["internal/bytealg.MaxLen", "unicode/utf8.first", "unicode/utf8.acceptRanges", "feedvault/text.nameSpans"], plainKeys := false, apart := false, laid := [("unicode/utf8.acceptRanges", laid_unicode_utf8_acceptRanges), ("feedvault/text.nameSpans", laid_feedvault_text_nameSpans), ("unicode/utf8.first", laid_unicode_utf8_first)], narrowed := true }
def XmlnsIsolatedUptoSaid : Prop := xmlnsIsolatedUptoRow.holds Tryd.pinned (OpenSpec.upto xmlnsIsolatedSpec)

/-- 'feedvaultlaw08.XmlnsChildren', WHERE WHAT IT READS IS OF BULK AT MOST 1048576: true; the input reads as it did. -/
def xmlnsChildrenUptoRow : OpenClaim := { program := "ytoehcholbcchcaadoor", sum := "641128d35fa793d9627e80b4f65b14e84e9c73903018a8d58aec865ea5abe100", func := "feedvault/feedvaultlaw08.XmlnsChildren", spec := "xmlnsChildren", inPlace := ["internal/bytealg.IndexByteString", "internal/bytealg.IndexString"], unfollowed := true, recurses := true, named := ["internal/bytealg.MaxLen", "unicode/utf8.first", "unicode/utf8.acceptRanges", "feedvault/text.nameSpans"], loops := true, plainKeys := false, apart := false, laid := [("unicode/utf8.acceptRanges", laid_unicode_utf8_acceptRanges), ("feedvault/text.nameSpans", laid_feedvault_text_nameSpans), ("unicode/utf8.first", laid_unicode_utf8_first)], narrowed := true }
def XmlnsChildrenUptoSaid : Prop := xmlnsChildrenUptoRow.holds Tryd.pinned (OpenSpec.upto xmlnsChildrenSpec)

end Rows
end Go.Proofs.YtoehcholbcchcaaDoor
