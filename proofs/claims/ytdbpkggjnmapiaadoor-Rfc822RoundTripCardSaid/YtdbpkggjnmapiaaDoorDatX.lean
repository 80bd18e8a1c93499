/- What the rows' list of variables gives: the tables that layer 3 reads lie in the world. -/
import Derived.Test.YtdbpkggjnmapiaaDoorCivX
import Derived.Test.YtdbpkggjnmapiaaDoorDatC
namespace Go.Proofs.YtdbpkggjnmapiaaDoor
open Go.RowKit Go.Lib

def datLaid : List (String × DataW Unit) := [("math/bits.deBruijn32tab", Rows.laid_math_bits_deBruijn32tab), ("math/bits.deBruijn64tab", Rows.laid_math_bits_deBruijn64tab), ("internal/strconv.uint64pow10", Rows.laid_internal_strconv_uint64pow10), ("unicode/utf8.acceptRanges", Rows.laid_unicode_utf8_acceptRanges), ("feedvault/civil.cycles", Rows.laid_feedvault_civil_cycles), ("feedvault/civil.monthDays", Rows.laid_feedvault_civil_monthDays), ("unicode/utf8.first", Rows.laid_unicode_utf8_first)]
theorem gt_pow : (Tryd.prog.globals[(8 : Nat)]?).map (·.type) = some 154 := by kernel_rfl
theorem cells_pow : Tryd.prog.cellsOf 154 = 20 := by kernel_rfl
theorem cells_u64 : Tryd.prog.cellsOf 139 = 1 := by kernel_rfl
theorem pow_data : (Rows.laid_internal_strconv_uint64pow10 : DataW Unit) = tabData .u64 pow10Tab := by kernel_rfl
theorem pow_of_reads {w : World} (h : VarReads Tryd.prog w "internal/strconv.uint64pow10" (tabData .u64 pow10Tab)) : TabIs Tryd.prog w "internal/strconv.uint64pow10" .u64 pow10Tab := by
  obtain ⟨g, t, cs, fuel, p, hg, hty, hvar, hd⟩ := h
  obtain rfl := Option.some.inj (dat_g_pow.symm.trans hg)
  obtain rfl := Option.some.inj (gt_pow.symm.trans hty)
  unfold TabIs
  rw [hvar, ← cells_of_tab Tryd.underlying154 Tryd.underlying139 cells_u64 cells_pow hd]
theorem datT_of_laid {W : World} (h : laidMetH Tryd.prog datLaid W) : DatT W := by
  rw [MakeChecks.laidMetH_plain _ _ _ (by kernel_rfl)] at h
  have h1 := laidMet.reads h (.tail _ (.tail _ (.tail _ (.tail _ (.head _)))))
  have h2 := laidMet.reads h (.tail _ (.tail _ (.tail _ (.tail _ (.tail _ (.head _))))))
  have h3 := laidMet.reads h (.tail _ (.tail _ (.head _)))
  rw [cycles_data] at h1
  rw [months_data] at h2
  rw [pow_data] at h3
  exact ⟨⟨months_of_reads h2, cycles_of_reads h1⟩, pow_of_reads h3⟩
end Go.Proofs.YtdbpkggjnmapiaaDoor
