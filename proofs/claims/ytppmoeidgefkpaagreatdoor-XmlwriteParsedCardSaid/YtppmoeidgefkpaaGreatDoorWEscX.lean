/- Packed from the texts EscX. -/
import Derived.Test.YtppmoeidgefkpaaGreatDoorWEscH
import Derived.Test.YtppmoeidgefkpaaGreatDoorRows
import Derived.PinnedBridge
import Derived.Lib.LaidU8
import Derived.MakeChecks
namespace Go.Proofs.YtppmoeidgefkpaaGreatDoor
section
open Go.RowKit Go.Lib
def nameD (x : List UInt8 × Int) : DataW Unit := .agg [.lit (.string x.1), .lit (.int .i32 x.2)]
theorem enames_data : (Rows.laid_feedvault_xmlescape_names : DataW Unit) = .slice (refNames.map nameD) [] := by kernel_rfl
theorem g_enames : Tryz.prog.globalNamed "feedvault/xmlescape.names" = some 2 := by kernel_rfl
theorem gt_enames : (Tryz.prog.globals[(2 : Nat)]?).map (·.type) = some 160 := by kernel_rfl
theorem cells_ename : Tryz.prog.cellsOf 162 = 2 := by kernel_rfl
theorem ecells_i32 : Tryz.prog.cellsOf 21 = 1 := by kernel_rfl
theorem ecells_str : Tryz.prog.cellsOf 9 = 1 := by kernel_rfl
theorem und_ename : ∃ fs : Array Field, Tryz.prog.underlying 162 = some (.struct fs) ∧ fs.size = 2 ∧ (∃ f, fs[0]? = some f ∧ f.type = 9 ∧ f.offset = 0) ∧ (∃ f, fs[1]? = some f ∧ f.type = 21 ∧ f.offset = 1) :=
 ⟨_, Tryz.underlying162, rfl, ⟨_, rfl, rfl, rfl⟩, ⟨_, rfl, rfl, rfl⟩⟩
theorem eone_int {w : World} {m : Nat} {l : List Value} {x : DataW Unit × List MemPlace} {z : Int} (h : DataW.trod (fun _ => ()) Tryz.prog w 0 (fun _ => true) false m 21 l = some x) (hx : x.1 = .lit (.int .i32 z)) : l = [.int .i32 z] := by
 obtain ⟨n, rfl, rfl, _⟩ := DataW.trod_int Tryz.underlying21 h
 simp only [DataW.lit.injEq, Lit.int.injEq, true_and] at hx
 rw [hx]
theorem eone_str {w : World} {m : Nat} {l : List Value} {x : DataW Unit × List MemPlace} {z : List UInt8} (h : DataW.trod (fun _ => ()) Tryz.prog w 0 (fun _ => true) false m 9 l = some x) (hx : x.1 = .lit (.string z)) : l = [.string (oB z)] := by
 obtain ⟨s, hs1, hs2, _⟩ := DataW.trod_string Tryz.underlying9 h
 rw [hs2] at hx
 have h4 : s.data.toList = z := Lit.string.inj (DataW.lit.inj hx)
 rw [hs1, ← h4, oBd]
theorem list_two2 {α : Type} {l : List α} (h : l.length = 2) : ∃ a b, l = [a, b] := by
 match l, h with
 | [a, b], _ => exact ⟨a, b, rfl⟩
theorem ename_cells {w : World} {m : Nat} {ce : List Value} {b : DataW Unit × List MemPlace} {x : List UInt8 × Int} (h : DataW.trod (fun _ => ()) Tryz.prog w 0 (fun _ => true) false m 162 ce = some b) (hb : b.1 = nameD x) :
  ce = [.string (oB x.1), .int .i32 x.2] := by
 obtain ⟨fs, hfs, hsz, ⟨f0, e0, t0, o0⟩, ⟨f1, e1, t1, o1⟩⟩ := und_ename
 obtain ⟨xs, n, rfl, rfl, hlen, hxs, hall⟩ := DataW.trod_struct hfs h
 rw [cells_ename] at hlen
 rw [hsz] at hxs
 have a0 := hall 0 f0 e0
 have a1 := hall 1 f1 e1
 rw [t0, o0, ecells_str] at a0
 rw [t1, o1, ecells_i32] at a1
 obtain ⟨y0, y1, rfl⟩ := list_two2 hxs
 obtain ⟨c0, c1, rfl⟩ := list_two2 hlen
 ·simp only [nameD, List.map_cons, List.map_nil, DataW.agg.injEq, List.cons.injEq, and_true] at hb
  have k0 := eone_str (x := y0) (z := x.1) (by simpa using a0) hb.1
  have k1 := eone_int (x := y1) (z := x.2) (by simpa using a1) hb.2
  simp at k0 k1
  rw [k0, k1]
theorem enames_of_reads {w : World} (h : VarReads Tryz.prog w "feedvault/xmlescape.names" (.slice (refNames.map nameD) [])) : EscT w := by
 obtain ⟨g, t, cs, fuel, p, hg, hty, hvar, hd⟩ := h
 obtain rfl := Option.some.inj (g_enames.symm.trans hg)
 obtain rfl := Option.some.inj (gt_enames.symm.trans hty)
 rcases DataW.trod_slice Tryz.underlying160 hd with ⟨_, hx⟩ | ⟨a, len, cap, el, rs, m, rfl, hcs, hx, _, hlc, _, hel, helem, hsp, _⟩
 ·cases hx
 have e0 := congrArg Prod.fst hx
 simp only [DataW.slice.injEq] at e0
 obtain ⟨eE, _⟩ := e0
 have hlen : len = 5 := by
  have := congrArg List.length eE
  simp [refNames] at this
  omega
 have hcell : ∀ i, i < 5 → ∀ j u, [Value.string (nmS i), .int .i32 (nmR i)][j]? = some u → w.cell? ((a.add (i * 2)).add j) = some u := by
  intro i hi j u hu
  have h1 := helem i (by omega)
  rw [cells_ename] at h1
  obtain ⟨b, hb⟩ : ∃ b, el[i]? = some b := ⟨el[i]'(by omega), List.getElem?_eq_getElem (by omega)⟩
  rw [hb] at h1
  obtain ⟨ce, hce, hte⟩ := Option.bind_eq_some_iff.1 h1
  have hb1 : b.1 = nameD (refNames.getD i ([], 0)) := by
   have h2 := congrArg (·[i]?) eE
   simp only [List.getElem?_map, hb, Option.map_some] at h2
   have h3 : refNames[i]? = some (refNames.getD i ([], 0)) := by
    have : ∀ i : Fin 5, refNames[i.val]? = some (refNames.getD i.val ([], 0)) := by decide
    exact this ⟨i, hi⟩
   rw [h3] at h2
   simpa using h2.symm
  have hcl := ename_cells hte hb1
  obtain ⟨_, hle, hcc⟩ := World.cells?_some hce
  rw [hcl] at hcc
  have hj : j < 2 := by
   have := (List.getElem?_eq_some_iff.1 hu).1
   simpa using this
  have := hcc j hj
  rw [← hu]
  simpa [nmS, nmR] using this
 obtain ⟨R, o, sR⟩ := a
 obtain rfl : sR = none := by
  have h00 := hcell 0 (by omega) 0 _ rfl
  exact Go.Proofs.cell_spot (by simpa [Addr.add] using h00)
 refine ⟨R, o, cap, ?_, fun i hi => ?_⟩
 ·rw [World.var?_cell hg hvar 0, ← Array.getElem?_toList, hcs, hlen]
  rfl
 ·have c0 := hcell i hi 0 _ rfl
  have c1 := hcell i hi 1 _ rfl
  have ad : ∀ j, ((⟨R, o, none⟩ : Addr).add (i * 2)).add j = ⟨R, o + i * 2 + j, none⟩ := fun j => by
   unfold Addr.add
   by_cases h1 : i * 2 = 0 <;> by_cases h2 : j = 0 <;> simp [h1, h2, Nat.add_assoc]
  rw [ad] at c0 c1
  exact ⟨c0, c1⟩
end
end Go.Proofs.YtppmoeidgefkpaaGreatDoor
