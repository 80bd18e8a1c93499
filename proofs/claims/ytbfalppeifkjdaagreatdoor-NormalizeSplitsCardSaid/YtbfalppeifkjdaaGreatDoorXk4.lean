/- Packed from the texts JwK JwZ NnX. -/
import Derived.Test.YtbfalppeifkjdaaGreatDoorXShelf
import Derived.Test.YtbfalppeifkjdaaGreatDoorXkG
import Derived.Test.YtbfalppeifkjdaaGreatDoorXkJ
import Derived.Test.YtbfalppeifkjdaaGreatDoorXkU
import Derived.Lib.SmallJoins
import Derived.Lib.LaidTab
section
namespace Go.Proofs.YtbfalppeifkjdaaGreatDoor
open Go.RowKit
def TabW (w : World) : Prop := HasUtf8 w ∧ EscJ w ∧ Lib.TabIs Tryz.prog w "internal/strconv.uint64pow10" .u64 Lib.pow10Tab
theorem jw_pow : Tryz.prog.globalNamed "internal/strconv.uint64pow10" = some 2 := by kernel_rfl
theorem TabW_below {w w' : World} (h : TabW w) (hb : Below w.heap.size w w') : TabW w' := ⟨Utf8Tabs_below h.1 hb, EscJ_below h.2.1 hb, Go.Joins.tab_stays jw_pow h.2.2 hb (Nat.le_refl _)⟩
theorem jw_grow (w : World) (k : Nat) (os : Array Obj) : Below w.heap.size w (Go.Sort.grow (w.drewN k) os) :=
  ⟨rfl, rfl, rfl, by show w.heap.size ≤ (w.heap ++ os).size; rw [Array.size_append]; omega, fun j hj => by show (w.heap ++ os)[j]? = w.heap[j]?; rw [Array.getElem?_append_left hj]⟩
theorem jw_Bool (b : Bool) (w : World) : Calls Tryz.prog 140 #[.bool b] w fun e w' => e = .returned (.string (ofBytes (boolT b))) ∧ Below w.heap.size w w' := by
  refine (Tryz.strconv_FormatBool b w).mono ?_
  rintro e w' ⟨rfl, rfl⟩
  refine ⟨?_, Below.refl _ _⟩
  cases b <;> rfl
theorem jw_Int (n : Int) (h0 : -9223372036854775808 ≤ n) (h1 : n ≤ 9223372036854775807) (w : World) (hT : TabW w) : Calls Tryz.prog 141 #[.int .i64 n, .int .i64 10] w fun e w' => e = .returned (.string (ofBytes (Lib.itoa n))) ∧ Below w.heap.size w w' := by
  refine (Tryz.strconv_FormatInt_10 n h0 h1 w hT.2.2).mono ?_
  rintro e w' ⟨rfl, k, os, rfl⟩
  exact ⟨rfl, jw_grow w k os⟩
end Go.Proofs.YtbfalppeifkjdaaGreatDoor
end
section
namespace Go.Proofs.YtbfalppeifkjdaaGreatDoor
open Go.RowKit Go.Lib
theorem jpow_data : (Rows.laid_internal_strconv_uint64pow10 : DataW Unit) = tabData .u64 pow10Tab := by kernel_rfl
theorem jgt_pow : (Tryz.prog.globals[(2 : Nat)]?).map (·.type) = some 213 := by kernel_rfl
set_option maxRecDepth 100000 in
theorem pow_of_reads {w : World} (h : VarReads Tryz.prog w "internal/strconv.uint64pow10" (tabData .u64 pow10Tab)) : TabIs Tryz.prog w "internal/strconv.uint64pow10" .u64 pow10Tab := by
  obtain ⟨g, t, cs, fuel, p, hg, hty, hvar, hd⟩ := h
  obtain rfl := Option.some.inj (jw_pow.symm.trans hg)
  obtain rfl := Option.some.inj (jgt_pow.symm.trans hty)
  unfold TabIs
  rw [hvar, ← cells_of_tab Tryz.underlying213 Tryz.underlying144 (by kernel_rfl) (by kernel_rfl) hd]
end Go.Proofs.YtbfalppeifkjdaaGreatDoor
end
section
namespace Go.Proofs.YtbfalppeifkjdaaGreatDoor
open Go.RowKit Go.Lib
def n14Laid : List (String × DataW Unit) := /- 10 -/ [("math/bits.deBruijn32tab", Rows.laid_math_bits_deBruijn32tab), ("math/bits.deBruijn64tab", Rows.laid_math_bits_deBruijn64tab), ("internal/strconv.uint64pow10", Rows.laid_internal_strconv_uint64pow10), ("unicode/utf8.acceptRanges", Rows.laid_unicode_utf8_acceptRanges), ("feedvault/jsonstring.escapes", Rows.laid_feedvault_jsonstring_escapes), ("unicode/utf8.first", Rows.laid_unicode_utf8_first)]
set_option maxRecDepth 100000 in
theorem n14T_of_laid {W : World} (h : laidMetH Tryz.prog n14Laid W) : TabW W := by
  rw [MakeChecks.laidMetH_plain _ _ _ (by kernel_rfl)] at h
  have h0 := laidMet.reads h (.tail _ (.tail _ (.head _)))
  have h1 := laidMet.reads h (.tail _ (.tail _ (.tail _ (.head _))))
  have h3 := laidMet.reads h (.tail _ (.tail _ (.tail _ (.tail _ (.head _)))))
  have h4 := laidMet.reads h (.tail _ (.tail _ (.tail _ (.tail _ (.tail _ (.head _))))))
  rw [jpow_data] at h0
  rw [jaccept_data] at h1
  rw [jesc_data] at h3
  rw [jfirst_data] at h4
  exact ⟨Go.Proofs.utf8Tabs_of_readsT (ρ := Tryz.lays196_ren) (Go.Proofs.U8Types.of196 Tryz.lays196) ju8extra h4 h1, esc_of_reads h3, pow_of_reads h0⟩
end Go.Proofs.YtbfalppeifkjdaaGreatDoor
end
