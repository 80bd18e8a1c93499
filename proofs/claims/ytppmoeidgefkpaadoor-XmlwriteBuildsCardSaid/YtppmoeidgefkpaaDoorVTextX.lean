/- Packed from the texts TextX. -/
import Derived.Test.YtppmoeidgefkpaaDoorVShelf
import Derived.Test.YtppmoeidgefkpaaDoorVTextF
import Derived.Test.YtppmoeidgefkpaaDoorRows
import Derived.PinnedBridge
import Derived.Lib.LaidU8
import Derived.MakeChecks
section
namespace Go.Proofs.YtppmoeidgefkpaaDoor
open Go.RowKit Go.Lib
def laid1 : List (String × DataW Unit) := [("unicode/utf8.acceptRanges", Rows.laid_unicode_utf8_acceptRanges), ("feedvault/text.nameSpans", Rows.laid_feedvault_text_nameSpans), ("unicode/utf8.first", Rows.laid_unicode_utf8_first)]
theorem first_data : (Rows.laid_unicode_utf8_first : DataW Unit) = firstData := Pinned.utf8First_eq
theorem accept_data : (Rows.laid_unicode_utf8_acceptRanges : DataW Unit) = acceptData := by kernel_rfl
def spanD (x : Span) : DataW Unit := .agg [.lit (.int .i32 x.1), .lit (.int .i32 x.2.1), .lit (.bool x.2.2)]
theorem spans_data : (Rows.laid_feedvault_text_nameSpans : DataW Unit) = .slice (spans.map spanD) [] := by kernel_rfl
theorem u8extra : Go.Proofs.U8Extra Tryd.prog Tryd.lays260_ren := ⟨by kernel_rfl, by kernel_rfl, by kernel_rfl, by kernel_rfl, by kernel_rfl, by kernel_rfl, by kernel_rfl⟩
theorem g_spans : Tryd.prog.globalNamed "feedvault/text.nameSpans" = some 2 := by kernel_rfl
theorem gt_spans : (Tryd.prog.globals[(2 : Nat)]?).map (·.type) = some 96 := by kernel_rfl
theorem cells_span : Tryd.prog.cellsOf 88 = 3 := by kernel_rfl
theorem cells_i32 : Tryd.prog.cellsOf 21 = 1 := by kernel_rfl
theorem cells_bool : Tryd.prog.cellsOf 4 = 1 := by kernel_rfl
theorem und_span : ∃ fs : Array Field, Tryd.prog.underlying 88 = some (.struct fs) ∧ fs.size = 3 ∧ (∃ f, fs[0]? = some f ∧ f.type = 21 ∧ f.offset = 0) ∧ (∃ f, fs[1]? = some f ∧ f.type = 21 ∧ f.offset = 1) ∧ (∃ f, fs[2]? = some f ∧ f.type = 4 ∧ f.offset = 2) :=
  ⟨_, Tryd.underlying88, rfl, ⟨_, rfl, rfl, rfl⟩, ⟨_, rfl, rfl, rfl⟩, ⟨_, rfl, rfl, rfl⟩⟩
theorem one_int {w : World} {m : Nat} {l : List Value} {x : DataW Unit × List MemPlace} {z : Int} (h : DataW.trod (fun _ => ()) Tryd.prog w 0 (fun _ => true) false m 21 l = some x) (hx : x.1 = .lit (.int .i32 z)) : l = [.int .i32 z] := by
  obtain ⟨n, rfl, rfl, _⟩ := DataW.trod_int Tryd.underlying21 h
  simp only [DataW.lit.injEq, Lit.int.injEq, true_and] at hx
  rw [hx]
theorem one_bool {w : World} {m : Nat} {l : List Value} {x : DataW Unit × List MemPlace} {z : Bool} (h : DataW.trod (fun _ => ()) Tryd.prog w 0 (fun _ => true) false m 4 l = some x) (hx : x.1 = .lit (.bool z)) : l = [.bool z] := by
  obtain ⟨n, rfl, rfl⟩ := DataW.trod_bool Tryd.underlying4 h
  simp only [DataW.lit.injEq, Lit.bool.injEq] at hx
  rw [hx]
theorem list_three {α : Type} {l : List α} (h : l.length = 3) : ∃ a b c, l = [a, b, c] := by
  match l, h with
  | [a, b, c], _ => exact ⟨a, b, c, rfl⟩
theorem span_cells {w : World} {m : Nat} {ce : List Value} {b : DataW Unit × List MemPlace} {x : Span} (h : DataW.trod (fun _ => ()) Tryd.prog w 0 (fun _ => true) false m 88 ce = some b) (hb : b.1 = spanD x) :
    ce = [.int .i32 x.1, .int .i32 x.2.1, .bool x.2.2] := by
  obtain ⟨fs, hfs, hsz, ⟨f0, e0, t0, o0⟩, ⟨f1, e1, t1, o1⟩, ⟨f2, e2, t2, o2⟩⟩ := und_span
  obtain ⟨xs, n, rfl, rfl, hlen, hxs, hall⟩ := DataW.trod_struct hfs h
  rw [cells_span] at hlen
  rw [hsz] at hxs
  have a0 := hall 0 f0 e0
  have a1 := hall 1 f1 e1
  have a2 := hall 2 f2 e2
  rw [t0, o0, cells_i32] at a0
  rw [t1, o1, cells_i32] at a1
  rw [t2, o2, cells_bool] at a2
  obtain ⟨y0, y1, y2, rfl⟩ := list_three hxs
  obtain ⟨c0, c1, c2, rfl⟩ := list_three hlen
  · simp only [spanD, List.map_cons, List.map_nil, DataW.agg.injEq, List.cons.injEq, and_true] at hb
    have k0 := one_int (x := y0) (z := x.1) (by simpa using a0) hb.1
    have k1 := one_int (x := y1) (z := x.2.1) (by simpa using a1) hb.2.1
    have k2 := one_bool (x := y2) (z := x.2.2) (by simpa using a2) hb.2.2
    simp at k0 k1 k2
    rw [k0, k1, k2]
theorem spans_of_reads {w : World} (h : VarReads Tryd.prog w "feedvault/text.nameSpans" (.slice (spans.map spanD) [])) : HasSpans w := by
  obtain ⟨g, t, cs, fuel, p, hg, hty, hvar, hd⟩ := h
  obtain rfl := Option.some.inj (g_spans.symm.trans hg)
  obtain rfl := Option.some.inj (gt_spans.symm.trans hty)
  rcases DataW.trod_slice Tryd.underlying96 hd with ⟨_, hx⟩ | ⟨a, len, cap, el, rs, m, rfl, hcs, hx, _, hlc, _, hel, helem, hsp, _⟩
  · cases hx
  have e0 := congrArg Prod.fst hx
  simp only [DataW.slice.injEq] at e0
  obtain ⟨eE, _⟩ := e0
  have hlen : len = 20 := by
    have := congrArg List.length eE
    simp [spans] at this
    omega
  have hcell : ∀ i, i < 20 → ∀ j u, [Value.int .i32 (spanLo i), .int .i32 (spanHi i), .bool (spanSt i)][j]? = some u → w.cell? ((a.add (i * 3)).add j) = some u := by
    intro i hi j u hu
    have h1 := helem i (by omega)
    rw [cells_span] at h1
    obtain ⟨b, hb⟩ : ∃ b, el[i]? = some b := ⟨el[i]'(by omega), List.getElem?_eq_getElem (by omega)⟩
    rw [hb] at h1
    obtain ⟨ce, hce, hte⟩ := Option.bind_eq_some_iff.1 h1
    have hb1 : b.1 = spanD (spanLo i, spanHi i, spanSt i) := by
      have h2 := congrArg (·[i]?) eE
      simp only [List.getElem?_map, hb, Option.map_some] at h2
      have h3 : spans[i]? = some (spanLo i, spanHi i, spanSt i) := by
        have : ∀ i : Fin 20, spans[i.val]? = some (spanLo i.val, spanHi i.val, spanSt i.val) := by decide
        exact this ⟨i, hi⟩
      rw [h3] at h2
      simpa using h2.symm
    have hcl := span_cells hte hb1
    obtain ⟨_, hle, hcc⟩ := World.cells?_some hce
    rw [hcl] at hcc
    have hj : j < 3 := by
      have := (List.getElem?_eq_some_iff.1 hu).1
      simpa using this
    have := hcc j hj
    rw [← hu]
    simpa using this
  obtain ⟨R, o, sR⟩ := a
  obtain rfl : sR = none := by
    have h00 := hcell 0 (by omega) 0 _ rfl
    exact Go.Proofs.cell_spot (by simpa [Addr.add] using h00)
  refine ⟨R, o, cap, ?_, fun i hi => ?_⟩
  · rw [World.var?_cell hg hvar 0, ← Array.getElem?_toList, hcs, hlen]
    rfl
  · have c0 := hcell i hi 0 _ rfl
    have c1 := hcell i hi 1 _ rfl
    have c2 := hcell i hi 2 _ rfl
    have ad : ∀ j, ((⟨R, o, none⟩ : Addr).add (i * 3)).add j = ⟨R, o + i * 3 + j, none⟩ := fun j => by
      unfold Addr.add
      by_cases h1 : i * 3 = 0 <;> by_cases h2 : j = 0 <;> simp [h1, h2, Nat.add_assoc]
    rw [ad] at c0 c1 c2
    exact ⟨c0, c1, c2⟩
theorem tabs_of_laid {W : World} (h : laidMetH Tryd.prog laid1 W) : HasTabs W := by
  rw [MakeChecks.laidMetH_plain _ _ _ (by kernel_rfl)] at h
  have h1 := laidMet.reads h (.head _)
  have h2 := laidMet.reads h (.tail _ (.head _))
  have h3 := laidMet.reads h (.tail _ (.tail _ (.head _)))
  rw [accept_data] at h1
  rw [spans_data] at h2
  rw [first_data] at h3
  exact ⟨Go.Proofs.utf8Tabs_of_reads (ρ := Tryd.lays260_ren) { Tryd.lays260 with } u8extra h3 h1, spans_of_reads h2⟩
end Go.Proofs.YtppmoeidgefkpaaDoor
end
