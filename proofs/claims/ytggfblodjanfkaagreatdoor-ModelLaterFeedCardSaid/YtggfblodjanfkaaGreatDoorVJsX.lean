/- Packed from the texts JsX. -/
import Derived.Test.YtggfblodjanfkaaGreatDoorVJsK
import Derived.Test.YtggfblodjanfkaaGreatDoorVShelf
import Derived.Test.YtggfblodjanfkaaGreatDoorRows
import Derived.PinnedBridge
import Derived.Lib.LaidU8
import Derived.Lib.LaidU8T
import Derived.MakeChecks
import Derived.OpenShut
import Derived.Laws.IdiomArrays
section
namespace Go.Proofs.YtggfblodjanfkaaGreatDoor
open Go.RowKit Go.Lib
theorem jfirst_data : (Rows.laid_unicode_utf8_first : DataW Unit) = firstData := Pinned.utf8First_eq
theorem jaccept_data : (Rows.laid_unicode_utf8_acceptRanges : DataW Unit) = acceptData := by kernel_rfl
theorem ju8extra : Go.Proofs.U8Extra Tryz.prog Tryz.lays196_ren := ⟨by kernel_rfl, by kernel_rfl, by kernel_rfl, by kernel_rfl, by kernel_rfl, by kernel_rfl, by kernel_rfl⟩
theorem jg_esc : Tryz.prog.globalNamed "feedvault/jsonstring.escapes" = some 3 := by kernel_rfl
theorem jgt_esc : (Tryz.prog.globals[(3 : Nat)]?).map (·.type) = some 156 := by kernel_rfl
theorem jcells_esc : Tryz.prog.cellsOf 155 = 2 := by kernel_rfl
theorem jcells_u8 : Tryz.prog.cellsOf 5 = 1 := by kernel_rfl
theorem jund_esc : ∃ fs : Array Field, Tryz.prog.underlying 155 = some (.struct fs) ∧ fs.size = 2 ∧ (∃ f, fs[0]? = some f ∧ f.type = 5 ∧ f.offset = 0) ∧ (∃ f, fs[1]? = some f ∧ f.type = 5 ∧ f.offset = 1) :=
  ⟨_, Tryz.underlying155, rfl, ⟨_, rfl, rfl, rfl⟩, ⟨_, rfl, rfl, rfl⟩⟩
def escD (x : Int × Int) : DataW Unit := .agg [.lit (.int .u8 x.1), .lit (.int .u8 x.2)]
theorem jesc_data : (Rows.laid_feedvault_jsonstring_escapes : DataW Unit) = .agg (escT.map escD) := by kernel_rfl
theorem jone_u8 {w : World} {m : Nat} {l : List Value} {x : DataW Unit × List MemPlace} {z : Int} (h : DataW.trod (fun _ => ()) Tryz.prog w 0 (fun _ => true) false m 5 l = some x) (hx : x.1 = .lit (.int .u8 z)) : l = [.int .u8 z] := by
  obtain ⟨n, rfl, rfl, _⟩ := DataW.trod_int Tryz.underlying5 h
  simp only [DataW.lit.injEq, Lit.int.injEq, true_and] at hx
  rw [hx]
theorem jlist_two {α : Type} {l : List α} (h : l.length = 2) : ∃ a b, l = [a, b] := by
  match l, h with
  | [a, b], _ => exact ⟨a, b, rfl⟩
set_option maxRecDepth 100000 in
theorem jesc_cells {w : World} {m : Nat} {ce : List Value} {b : DataW Unit × List MemPlace} {x : Int × Int} (h : DataW.trod (fun _ => ()) Tryz.prog w 0 (fun _ => true) false m 155 ce = some b) (hb : b.1 = escD x) :
    ce = [.int .u8 x.1, .int .u8 x.2] := by
  obtain ⟨fs, hfs, hsz, ⟨f0, e0, t0, o0⟩, ⟨f1, e1, t1, o1⟩⟩ := jund_esc
  obtain ⟨xs, n, rfl, rfl, hlen, hxs, hall⟩ := DataW.trod_struct hfs h
  rw [jcells_esc] at hlen
  rw [hsz] at hxs
  have a0 := hall 0 f0 e0
  have a1 := hall 1 f1 e1
  rw [t0, o0, jcells_u8] at a0
  rw [t1, o1, jcells_u8] at a1
  obtain ⟨y0, y1, rfl⟩ := jlist_two hxs
  obtain ⟨c0, c1, rfl⟩ := jlist_two hlen
  · simp only [escD, List.map_cons, List.map_nil, DataW.agg.injEq, List.cons.injEq, and_true] at hb
    have k0 := jone_u8 (x := y0) (z := x.1) (by simpa using a0) hb.1
    have k1 := jone_u8 (x := y1) (z := x.2) (by simpa using a1) hb.2
    simp at k0 k1
    rw [k0, k1]
theorem escT_at : ∀ i : Fin 8, escT[i.val]? = some (escT.getD i.val (0, 0)) := by decide
theorem esc_of_reads {w : World} (h : VarReads Tryz.prog w "feedvault/jsonstring.escapes" (.agg (escT.map escD))) : EscJ w := by
  obtain ⟨g, t, cs, fuel, p, hg, hty, hvar, hd⟩ := h
  obtain rfl := Option.some.inj (jg_esc.symm.trans hg)
  obtain rfl := Option.some.inj (jgt_esc.symm.trans hty)
  obtain ⟨xs, m, rfl, hx, hlen, hxs, hall⟩ := DataW.trod_array Tryz.underlying156 hd
  have e0 : xs.map (·.1) = escT.map escD := by
    have := congrArg Prod.fst hx
    simpa using this.symm
  intro i hi
  have hb : ∃ b, xs[i]? = some b ∧ b.1 = escD (escT.getD i (0, 0)) := by
    have h2 := congrArg (·[i]?) e0
    simp only [List.getElem?_map] at h2
    obtain ⟨b, hb⟩ : ∃ b, xs[i]? = some b := ⟨xs[i]'(by omega), List.getElem?_eq_getElem (by omega)⟩
    rw [hb, escT_at ⟨i, hi⟩] at h2
    exact ⟨b, hb, by simpa using h2⟩
  obtain ⟨b, hb, hb1⟩ := hb
  have h3 := hall i hi
  rw [hb, jcells_esc] at h3
  have h4 := jesc_cells h3 hb1
  generalize escT.getD i (0, 0) = lm at *
  have cell : ∀ j v, j < 2 → [Value.int .u8 lm.1, .int .u8 lm.2][j]? = some v → w.cell? ⟨3, i * 2 + j, none⟩ = some v := by
    intro j v hj hv
    rw [World.var?_cell hg hvar (i * 2 + j), ← hv, ← h4, List.getElem?_take, if_pos hj, List.getElem?_drop, Array.getElem?_toList]
  exact ⟨cell 0 _ (by omega) rfl, cell 1 _ (by omega) rfl⟩
end Go.Proofs.YtggfblodjanfkaaGreatDoor
end
