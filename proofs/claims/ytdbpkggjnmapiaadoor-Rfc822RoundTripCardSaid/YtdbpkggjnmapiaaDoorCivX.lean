/- What the rows' list of variables gives: layer 2's tables lie in the world. And an array of three integers as an argument. -/
import Derived.Test.YtdbpkggjnmapiaaDoorRows
import Derived.Test.YtdbpkggjnmapiaaDoorCivC
import Derived.PinnedBridge
import Derived.MakeChecks
import Derived.OpenShut
import Derived.Laws.IdiomArrays
import Derived.Lib.SmallJoins
import Derived.Lib.LaidTab
import Derived.Deep.Strs
namespace Go.Proofs.YtdbpkggjnmapiaaDoor
open Go.RowKit Go.Lib Go.ChangeShapes

def civLaid : List (String × DataW Unit) := [("feedvault/civil.cycles", Rows.laid_feedvault_civil_cycles), ("feedvault/civil.monthDays", Rows.laid_feedvault_civil_monthDays)]
theorem g_months : Tryd.prog.globalNamed "feedvault/civil.monthDays" = some 3 := by kernel_rfl
theorem gt_months : (Tryd.prog.globals[(3 : Nat)]?).map (·.type) = some 90 := by kernel_rfl
theorem g_cycles : Tryd.prog.globalNamed "feedvault/civil.cycles" = some 2 := by kernel_rfl
theorem gt_cycles : (Tryd.prog.globals[(2 : Nat)]?).map (·.type) = some 102 := by kernel_rfl
theorem cells_cycle : Tryd.prog.cellsOf 101 = 3 := by kernel_rfl
theorem cells_months : Tryd.prog.cellsOf 90 = 12 := by kernel_rfl
theorem cells_cycles : Tryd.prog.cellsOf 102 = 12 := by kernel_rfl
theorem cells_int : Tryd.prog.cellsOf 3 = 1 := by kernel_rfl
theorem cells_i64 : Tryd.prog.cellsOf 2 = 1 := by kernel_rfl
theorem und_cycle : ∃ fs : Array Field, Tryd.prog.underlying 101 = some (.struct fs) ∧ fs.size = 3 ∧ (∃ f, fs[0]? = some f ∧ f.type = 2 ∧ f.offset = 0) ∧ (∃ f, fs[1]? = some f ∧ f.type = 2 ∧ f.offset = 1) ∧ (∃ f, fs[2]? = some f ∧ f.type = 2 ∧ f.offset = 2) :=
  ⟨_, Tryd.underlying101, rfl, ⟨_, rfl, rfl, rfl⟩, ⟨_, rfl, rfl, rfl⟩, ⟨_, rfl, rfl, rfl⟩⟩
def monthList : List Int := [31, 28, 31, 30, 31, 30, 31, 31, 30, 31, 30, 31]
theorem months_data : (Rows.laid_feedvault_civil_monthDays : DataW Unit) = tabData .i64 monthList := by kernel_rfl
def cycD (i : Nat) : DataW Unit := .agg [.lit (.int .i64 (cyY i)), .lit (.int .i64 (cyD i)), .lit (.int .i64 (cyL i))]
theorem cycles_data : (Rows.laid_feedvault_civil_cycles : DataW Unit) = .agg [cycD 0, cycD 1, cycD 2, cycD 3] := by kernel_rfl

theorem one_i64 {w : World} {m : Nat} {l : List Value} {x : DataW Unit × List MemPlace} {z : Int} (h : DataW.trod (fun _ => ()) Tryd.prog w 0 (fun _ => true) false m 2 l = some x) (hx : x.1 = .lit (.int .i64 z)) : l = [.int .i64 z] := by
  obtain ⟨n, rfl, rfl, _⟩ := DataW.trod_int Tryd.underlying2 h
  simp only [DataW.lit.injEq, Lit.int.injEq, true_and] at hx
  rw [hx]
set_option maxRecDepth 100000 in
theorem cycle_cells {w : World} {m : Nat} {ce : List Value} {b : DataW Unit × List MemPlace} {x y z : Int} (h : DataW.trod (fun _ => ()) Tryd.prog w 0 (fun _ => true) false m 101 ce = some b) (hb : b.1 = .agg [.lit (.int .i64 x), .lit (.int .i64 y), .lit (.int .i64 z)]) :
    ce = [.int .i64 x, .int .i64 y, .int .i64 z] := by
  obtain ⟨fs, hfs, hsz, ⟨f0, e0, t0, o0⟩, ⟨f1, e1, t1, o1⟩, ⟨f2, e2, t2, o2⟩⟩ := und_cycle
  obtain ⟨xs, n, rfl, rfl, hlen, hxs, hall⟩ := DataW.trod_struct hfs h
  rw [cells_cycle] at hlen
  rw [hsz] at hxs
  have a0 := hall 0 f0 e0
  have a1 := hall 1 f1 e1
  have a2 := hall 2 f2 e2
  rw [t0, o0, cells_i64] at a0
  rw [t1, o1, cells_i64] at a1
  rw [t2, o2, cells_i64] at a2
  match xs, hxs, ce, hlen with
  | [y0, y1, y2], _, [c0, c1, c2], _ =>
    simp only [List.map_cons, List.map_nil, DataW.agg.injEq, List.cons.injEq, and_true] at hb
    have k0 := one_i64 (x := y0) (z := x) (by simpa using a0) hb.1
    have k1 := one_i64 (x := y1) (z := y) (by simpa using a1) hb.2.1
    have k2 := one_i64 (x := y2) (z := z) (by simpa using a2) hb.2.2
    simp at k0 k1 k2
    rw [k0, k1, k2]

theorem cycles_of_reads {w : World} (h : VarReads Tryd.prog w "feedvault/civil.cycles" (.agg [cycD 0, cycD 1, cycD 2, cycD 3])) :
    ∀ i, i < 4 → w.cell? ⟨2, i * 3, none⟩ = some (.int .i64 (cyY i)) ∧ w.cell? ⟨2, i * 3 + 1, none⟩ = some (.int .i64 (cyD i)) ∧ w.cell? ⟨2, i * 3 + 2, none⟩ = some (.int .i64 (cyL i)) := by
  obtain ⟨g, t, cs, fuel, p, hg, hty, hvar, hd⟩ := h
  obtain rfl := Option.some.inj (g_cycles.symm.trans hg)
  obtain rfl := Option.some.inj (gt_cycles.symm.trans hty)
  obtain ⟨xs, m, rfl, hx, hlen, hxs, hall⟩ := DataW.trod_array Tryd.underlying102 hd
  have e0 : xs.map (·.1) = [cycD 0, cycD 1, cycD 2, cycD 3] := by
    have := congrArg Prod.fst hx
    simpa using this.symm
  intro i hi
  have hb : ∃ b, xs[i]? = some b ∧ b.1 = cycD i := by
    have h2 := congrArg (·[i]?) e0
    simp only [List.getElem?_map] at h2
    obtain ⟨b, hb⟩ : ∃ b, xs[i]? = some b := ⟨xs[i]'(by omega), List.getElem?_eq_getElem (by omega)⟩
    rw [hb] at h2
    refine ⟨b, hb, ?_⟩
    rcases (by omega : i = 0 ∨ i = 1 ∨ i = 2 ∨ i = 3) with rfl | rfl | rfl | rfl
    all_goals simpa using h2
  obtain ⟨b, hb, hb1⟩ := hb
  have h3 := hall i hi
  rw [hb, cells_cycle] at h3
  have h4 := cycle_cells h3 hb1
  have cell : ∀ j v, j < 3 → [Value.int .i64 (cyY i), .int .i64 (cyD i), .int .i64 (cyL i)][j]? = some v → w.cell? ⟨2, i * 3 + j, none⟩ = some v := by
    intro j v hj hv
    rw [World.var?_cell hg hvar (i * 3 + j), ← hv, ← h4, List.getElem?_take, if_pos hj, List.getElem?_drop, Array.getElem?_toList]
  exact ⟨cell 0 _ (by omega) rfl, cell 1 _ (by omega) rfl, cell 2 _ (by omega) rfl⟩

theorem months_of_reads {w : World} (h : VarReads Tryd.prog w "feedvault/civil.monthDays" (tabData .i64 monthList)) : ∀ i, i < 12 → w.cell? ⟨3, i, none⟩ = some (.int .i64 (mdN i)) := by
  obtain ⟨g, t, cs, fuel, p, hg, hty, hvar, hd⟩ := h
  obtain rfl := Option.some.inj (g_months.symm.trans hg)
  obtain rfl := Option.some.inj (gt_months.symm.trans hty)
  have hcs := cells_of_tab Tryd.underlying90 Tryd.underlying3 cells_int cells_months hd
  intro i hi
  rw [World.var?_cell hg hvar i, ← Array.getElem?_toList, hcs]
  have : ∀ i : Fin 12, monthList[i.val]? = some (mdN i.val) := by decide
  rw [List.getElem?_map, this ⟨i, hi⟩]
  rfl

theorem civT_of_laid {W : World} (h : laidMetH Tryd.prog civLaid W) : CivT W := by
  rw [MakeChecks.laidMetH_plain _ _ _ (by kernel_rfl)] at h
  have h1 := laidMet.reads h (.head _)
  have h2 := laidMet.reads h (.tail _ (.head _))
  rw [cycles_data] at h1
  rw [months_data] at h2
  exact ⟨months_of_reads h2, cycles_of_reads h1⟩

section
variable {H : Type} {enc : TypeId × Value → H} {w : World} {base : Nat} {sp : Nat → Bool} {held : Bool}
end
end Go.Proofs.YtdbpkggjnmapiaaDoor
