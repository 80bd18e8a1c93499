/- Packed from the texts TokX. -/
import Derived.Test.YtppmoeidgefkpaaGreatDoorWEscX
import Derived.Test.YtppmoeidgefkpaaGreatDoorWTextX
import Derived.Test.YtppmoeidgefkpaaGreatDoorWkC
namespace Go.Proofs.YtppmoeidgefkpaaGreatDoor
section
open Go.RowKit Go.Lib
def tokLaid : List (String × DataW Unit) := [("unicode/utf8.acceptRanges", Rows.laid_unicode_utf8_acceptRanges), ("feedvault/text.nameSpans", Rows.laid_feedvault_text_nameSpans), ("feedvault/xmlescape.names", Rows.laid_feedvault_xmlescape_names), ("unicode/utf8.first", Rows.laid_unicode_utf8_first)]
theorem tokT_of_laid {W : World} (h : laidMetH Tryz.prog tokLaid W) (hsh : W.ShapedOpen Tryz.prog) : TokT W := by
 rw [MakeChecks.laidMetH_plain _ _ _ (by kernel_rfl)] at h
 have h1 := laidMet.reads h (.head _)
 have h2 := laidMet.reads h (.tail _ (.head _))
 have h3 := laidMet.reads h (.tail _ (.tail _ (.head _)))
 have h4 := laidMet.reads h (.tail _ (.tail _ (.tail _ (.head _))))
 rw [accept_data] at h1
 rw [spans_data] at h2
 rw [enames_data] at h3
 rw [first_data] at h4
 exact ⟨⟨Go.Proofs.utf8Tabs_of_reads (ρ := Tryz.lays260_ren) { Tryz.lays260 with } u8extra h4 h1, spans_of_reads h2⟩, enames_of_reads h3, (by first | exact Tryz.laysM145.s1_3 W hsh | exact Tryz.laysM154.s1_3 W hsh)⟩
end
end Go.Proofs.YtppmoeidgefkpaaGreatDoor
