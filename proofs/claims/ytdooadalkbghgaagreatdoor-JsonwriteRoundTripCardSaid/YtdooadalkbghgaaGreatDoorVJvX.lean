/- Packed from the texts JvX. -/
import Derived.Test.YtdooadalkbghgaaGreatDoorVJpB
import Derived.Test.YtdooadalkbghgaaGreatDoorVJsX
section
namespace Go.Proofs.YtdooadalkbghgaaGreatDoor
open Go.RowKit Go.Lib
theorem jg_rng : Tryz.prog.globalNamed "strconv.ErrRange" = some 7 := by kernel_rfl
theorem jgt_rng : (Tryz.prog.globals[(7 : Nat)]?).map (·.type) = some 66 := by kernel_rfl
set_option maxRecDepth 100000 in
theorem rng_of_reads {w : World} {n : String} {d : DataW Unit} (h : VarReads Tryz.prog w "strconv.ErrRange" (.iface n d)) : ∃ te pe, w.cell? ⟨7, 0, none⟩ = some (.iface te pe) := by
  obtain ⟨g, t, cs, fuel, p, hg, hty, hvar, hd⟩ := h
  obtain rfl := Option.some.inj (jg_rng.symm.trans hg)
  obtain rfl := Option.some.inj (jgt_rng.symm.trans hty)
  obtain ⟨u, v, hcs⟩ := jtrod_iface hd rfl
  refine ⟨u, v, ?_⟩
  rw [World.var?_cell hg hvar 0, ← Array.getElem?_toList, hcs]
  rfl
set_option maxRecDepth 100000 in
theorem jvT_of_laid {W : World} (h : laidMetH Tryz.prog jsLaid W) : TabV W := by
  have hJ := jsT_of_laid h
  rw [MakeChecks.laidMetH_plain _ _ _ (by kernel_rfl)] at h
  have h1 := laidMet.reads h (.tail _ (.tail _ (.tail _ (.tail _ (.head _)))))
  exact ⟨hJ, rng_of_reads h1⟩
end Go.Proofs.YtdooadalkbghgaaGreatDoor
end
