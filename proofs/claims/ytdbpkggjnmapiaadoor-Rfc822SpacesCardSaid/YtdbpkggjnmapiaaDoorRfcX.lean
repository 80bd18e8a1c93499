/- What the rows' list of variables gives: the tables and the names that layer 4 reads lie in the world. -/
import Derived.Test.YtdbpkggjnmapiaaDoorDatX
import Derived.Test.YtdbpkggjnmapiaaDoorRfcV
namespace Go.Proofs.YtdbpkggjnmapiaaDoor
open Go.RowKit Go.Lib

def rfcLaid : List (String × DataW Unit) := [("math/bits.deBruijn32tab", Rows.laid_math_bits_deBruijn32tab), ("math/bits.deBruijn64tab", Rows.laid_math_bits_deBruijn64tab), ("internal/strconv.uint64pow10", Rows.laid_internal_strconv_uint64pow10), ("unicode/utf8.acceptRanges", Rows.laid_unicode_utf8_acceptRanges), ("feedvault/civil.cycles", Rows.laid_feedvault_civil_cycles), ("feedvault/civil.monthDays", Rows.laid_feedvault_civil_monthDays), ("feedvault/rfc822.dayNames", Rows.laid_feedvault_rfc822_dayNames), ("feedvault/rfc822.monthNames", Rows.laid_feedvault_rfc822_monthNames), ("unicode/utf8.first", Rows.laid_unicode_utf8_first)]
def rfcLaidC : List (String × DataW Unit) := [("math/bits.deBruijn32tab", Rows.laid_math_bits_deBruijn32tab), ("math/bits.deBruijn64tab", Rows.laid_math_bits_deBruijn64tab), ("internal/strconv.uint64pow10", Rows.laid_internal_strconv_uint64pow10), ("unicode/utf8.acceptRanges", Rows.laid_unicode_utf8_acceptRanges), ("feedvault/civil.cycles", Rows.laid_feedvault_civil_cycles), ("feedvault/civil.monthDays", Rows.laid_feedvault_civil_monthDays), ("feedvault/rfc822.dayNames", Rows.laid_feedvault_rfc822_dayNames), ("feedvault/rfc822.monthNames", Rows.laid_feedvault_rfc822_monthNames), ("unicode.CaseRanges", Rows.laid_unicode_CaseRanges), ("unicode/utf8.first", Rows.laid_unicode_utf8_first)]
def strTab (ns : List (List UInt8)) : DataW Unit := .agg (ns.map fun x => .lit (.string x))
def dayTab : List (List UInt8) := [dnm 0, dnm 1, dnm 2, dnm 3, dnm 4, dnm 5, dnm 6]
def monTab : List (List UInt8) := [mnm 0, mnm 1, mnm 2, mnm 3, mnm 4, mnm 5, mnm 6, mnm 7, mnm 8, mnm 9, mnm 10, mnm 11]
theorem days_data : (Rows.laid_feedvault_rfc822_dayNames : DataW Unit) = strTab dayTab := by kernel_rfl
theorem mons_data : (Rows.laid_feedvault_rfc822_monthNames : DataW Unit) = strTab monTab := by kernel_rfl
theorem rcells_str : Tryd.prog.cellsOf 9 = 1 := by kernel_rfl
/-- An array of strings that reads so: its cells. -/
theorem strs_of_reads {w : World} {name : String} {g ty : Nat} {n : Nat} {ns : List (List UInt8)} (hg : Tryd.prog.globalNamed name = some g) (hty : (Tryd.prog.globals[g]?).map (·.type) = some ty) (hu : Tryd.prog.underlying ty = some (.array n 9)) (hn : ns.length = n) (h : VarReads Tryd.prog w name (strTab ns)) :
    ∀ i x, ns[i]? = some x → w.cell? ⟨g, i, none⟩ = some (.string (ofBytes x)) := by
  obtain ⟨g', t', cs, fuel, p, hg', hty', hvar, hd⟩ := h
  obtain rfl := Option.some.inj (hg.symm.trans hg')
  obtain rfl := Option.some.inj (hty.symm.trans hty')
  obtain ⟨xs, m, rfl, hx, hlen, hxs, hall⟩ := DataW.trod_array hu hd
  have e0 : xs.map (·.1) = ns.map fun x => (DataW.lit (.string x) : DataW Unit) := by
    have := congrArg Prod.fst hx
    simpa [strTab] using this.symm
  intro i x hi
  have hin : i < n := by rw [← hn]; exact (List.getElem?_eq_some_iff.1 hi).1
  have h2 := congrArg (·[i]?) e0
  simp only [List.getElem?_map, hi, Option.map_some] at h2
  obtain ⟨b, hb⟩ : ∃ b, xs[i]? = some b := ⟨xs[i]'(by omega), List.getElem?_eq_getElem (by omega)⟩
  rw [hb] at h2
  simp only [Option.map_some, Option.some.injEq] at h2
  have h3 := hall i hin
  rw [hb, rcells_str, Nat.mul_one] at h3
  obtain ⟨s, hs1, hs2, _⟩ := DataW.trod_string Tryd.underlying9 h3
  rw [hs2] at h2
  have h4 : s.data.toList = x := Lit.string.inj (DataW.lit.inj h2)
  rw [World.var?_cell hg hvar i, ← h4, ofBytes_data]
  have h5 := congrArg (·[0]?) hs1
  simp only [List.getElem?_take, List.getElem?_drop, List.getElem?_cons_zero, Nat.add_zero] at h5
  rw [← Array.getElem?_toList]
  simpa using h5
theorem g_days : Tryd.prog.globalNamed "feedvault/rfc822.dayNames" = some 1 := by kernel_rfl
theorem gt_days : (Tryd.prog.globals[(1 : Nat)]?).map (·.type) = some 38 := by kernel_rfl
theorem g_mons : Tryd.prog.globalNamed "feedvault/rfc822.monthNames" = some 0 := by kernel_rfl
theorem gt_mons : (Tryd.prog.globals[(0 : Nat)]?).map (·.type) = some 49 := by kernel_rfl
theorem dayTab_at : ∀ i : Fin 7, dayTab[i.val]? = some (dnm i.val) := by decide
theorem monTab_at : ∀ i : Fin 12, monTab[i.val]? = some (mnm i.val) := by decide
theorem namT_of {w : World} (h1 : VarReads Tryd.prog w "feedvault/rfc822.dayNames" (strTab dayTab)) (h2 : VarReads Tryd.prog w "feedvault/rfc822.monthNames" (strTab monTab)) : NamT w :=
  ⟨fun i hi => strs_of_reads g_days gt_days Tryd.underlying38 rfl h1 i _ (dayTab_at ⟨i, hi⟩), fun i hi => strs_of_reads g_mons gt_mons Tryd.underlying49 rfl h2 i _ (monTab_at ⟨i, hi⟩)⟩
theorem rfcT_of_reads {W : World} (hsh : W.ShapedOpen Tryd.prog) (h1 : VarReads Tryd.prog W "feedvault/civil.cycles" Rows.laid_feedvault_civil_cycles) (h2 : VarReads Tryd.prog W "feedvault/civil.monthDays" Rows.laid_feedvault_civil_monthDays) (h3 : VarReads Tryd.prog W "internal/strconv.uint64pow10" Rows.laid_internal_strconv_uint64pow10) (h4 : VarReads Tryd.prog W "feedvault/rfc822.dayNames" Rows.laid_feedvault_rfc822_dayNames) (h5 : VarReads Tryd.prog W "feedvault/rfc822.monthNames" Rows.laid_feedvault_rfc822_monthNames) : RfcT W := by
  rw [cycles_data] at h1
  rw [months_data] at h2
  rw [pow_data] at h3
  rw [days_data] at h4
  rw [mons_data] at h5
  exact ⟨⟨⟨⟨months_of_reads h2, cycles_of_reads h1⟩, pow_of_reads h3⟩, namT_of h4 h5⟩, Tryd.laysM147.s1_3 W hsh⟩
theorem rfcT_of_laid {W : World} (h : laidMetH Tryd.prog rfcLaid W) (hsh : W.ShapedOpen Tryd.prog) : RfcT W := by
  rw [MakeChecks.laidMetH_plain _ _ _ (by kernel_rfl)] at h
  exact rfcT_of_reads hsh (laidMet.reads h (.tail _ (.tail _ (.tail _ (.tail _ (.head _)))))) (laidMet.reads h (.tail _ (.tail _ (.tail _ (.tail _ (.tail _ (.head _))))))) (laidMet.reads h (.tail _ (.tail _ (.head _)))) (laidMet.reads h (.tail _ (.tail _ (.tail _ (.tail _ (.tail _ (.tail _ (.head _)))))))) (laidMet.reads h (.tail _ (.tail _ (.tail _ (.tail _ (.tail _ (.tail _ (.tail _ (.head _)))))))))
theorem rfcT_of_laidC {W : World} (h : laidMetH Tryd.prog rfcLaidC W) (hsh : W.ShapedOpen Tryd.prog) : RfcT W := by
  rw [MakeChecks.laidMetH_plain _ _ _ (by kernel_rfl)] at h
  exact rfcT_of_reads hsh (laidMet.reads h (.tail _ (.tail _ (.tail _ (.tail _ (.head _)))))) (laidMet.reads h (.tail _ (.tail _ (.tail _ (.tail _ (.tail _ (.head _))))))) (laidMet.reads h (.tail _ (.tail _ (.head _)))) (laidMet.reads h (.tail _ (.tail _ (.tail _ (.tail _ (.tail _ (.tail _ (.head _)))))))) (laidMet.reads h (.tail _ (.tail _ (.tail _ (.tail _ (.tail _ (.tail _ (.tail _ (.head _)))))))))
end Go.Proofs.YtdbpkggjnmapiaaDoor
