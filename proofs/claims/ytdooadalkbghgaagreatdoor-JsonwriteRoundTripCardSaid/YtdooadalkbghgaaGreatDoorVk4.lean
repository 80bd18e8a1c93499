/- Packed from the texts JwK JwZ. -/
import Derived.Test.YtdooadalkbghgaaGreatDoorVJsX
import Derived.Test.YtdooadalkbghgaaGreatDoorVJwH
import Derived.Test.YtdooadalkbghgaaGreatDoorVShelf
import Derived.Test.YtdooadalkbghgaaGreatDoorVkH
import Derived.Test.YtdooadalkbghgaaGreatDoorVkW
import Derived.Lib.SmallJoins
import Derived.Lib.LaidTab
section
namespace Go.Proofs.YtdooadalkbghgaaGreatDoor
open Go.RowKit
def TabW (w : World) : Prop := HasUtf8 w ∧ EscJ w ∧ Lib.TabIs Tryz.prog w "internal/strconv.uint64pow10" .u64 Lib.pow10Tab
theorem jw_pow : Tryz.prog.globalNamed "internal/strconv.uint64pow10" = some 2 := by kernel_rfl
theorem TabW_below {w w' : World} (h : TabW w) (hb : Below w.heap.size w w') : TabW w' := ⟨Utf8Tabs_below h.1 hb, EscJ_below h.2.1 hb, Go.Joins.tab_stays jw_pow h.2.2 hb (Nat.le_refl _)⟩
theorem jw_grow (w : World) (k : Nat) (os : Array Obj) : Below w.heap.size w (Go.Sort.grow (w.drewN k) os) :=
  ⟨rfl, rfl, rfl, by show w.heap.size ≤ (w.heap ++ os).size; rw [Array.size_append]; omega, fun j hj => by show (w.heap ++ os)[j]? = w.heap[j]?; rw [Array.getElem?_append_left hj]⟩
theorem jw_Bool (b : Bool) (w : World) : Calls Tryz.prog 32 #[.bool b] w fun e w' => e = .returned (.string (ofBytes (boolT b))) ∧ Below w.heap.size w w' := by
  refine (Tryz.strconv_FormatBool b w).mono ?_
  rintro e w' ⟨rfl, rfl⟩
  refine ⟨?_, Below.refl _ _⟩
  cases b <;> rfl
theorem jw_Int (n : Int) (h0 : -9223372036854775808 ≤ n) (h1 : n ≤ 9223372036854775807) (w : World) (hT : TabW w) : Calls Tryz.prog 33 #[.int .i64 n, .int .i64 10] w fun e w' => e = .returned (.string (ofBytes (Lib.itoa n))) ∧ Below w.heap.size w w' := by
  refine (Tryz.strconv_FormatInt_10 n h0 h1 w hT.2.2).mono ?_
  rintro e w' ⟨rfl, k, os, rfl⟩
  exact ⟨rfl, jw_grow w k os⟩
end Go.Proofs.YtdooadalkbghgaaGreatDoor
end
section
namespace Go.Proofs.YtdooadalkbghgaaGreatDoor
open Go.RowKit Go.Lib
theorem jpow_data : (Rows.laid_internal_strconv_uint64pow10 : DataW Unit) = tabData .u64 pow10Tab := by kernel_rfl
theorem jgt_pow : (Tryz.prog.globals[(2 : Nat)]?).map (·.type) = some 119 := by kernel_rfl
set_option maxRecDepth 100000 in
theorem pow_of_reads {w : World} (h : VarReads Tryz.prog w "internal/strconv.uint64pow10" (tabData .u64 pow10Tab)) : TabIs Tryz.prog w "internal/strconv.uint64pow10" .u64 pow10Tab := by
  obtain ⟨g, t, cs, fuel, p, hg, hty, hvar, hd⟩ := h
  obtain rfl := Option.some.inj (jw_pow.symm.trans hg)
  obtain rfl := Option.some.inj (jgt_pow.symm.trans hty)
  unfold TabIs
  rw [hvar, ← cells_of_tab Tryz.underlying119 Tryz.underlying104 (by kernel_rfl) (by kernel_rfl) hd]
set_option maxRecDepth 100000 in
theorem jwT_of_laidZ {W : World} (h : laidMetH Tryz.prog jsLaid W) : TabW W := by
  have hJ := jsT_of_laid h
  rw [MakeChecks.laidMetH_plain _ _ _ (by kernel_rfl)] at h
  have h0 := laidMet.reads h (.tail _ (.tail _ (.head _)))
  rw [jpow_data] at h0
  exact ⟨hJ.1, hJ.2.1, pow_of_reads h0⟩
end Go.Proofs.YtdooadalkbghgaaGreatDoor
end
