/- Packed from the texts TrfO. -/
import Derived.Test.YtppmoeidgefkpaaDoorVkF
import Derived.Carry
import Derived.Deep.Fields
import Derived.ProofKit
section
namespace Go.Proofs.YtppmoeidgefkpaaDoor
open Go.RowKit Go.Deep
section
variable {H : Type} {enc : TypeId × Value → H} {w : World} {base : Nat} {spare : Nat → Bool} {held : Bool}
def Sz (P : Program) (t : TypeId) (d : DataW H) : Prop := ∀ z ∈ d.weights P t, z ≤ reachBytes
theorem Sz.part {P : Program} {t : TypeId} {fs : Array Field} {xs : List (DataW H × List MemPlace)} (he : P.underlying t = some (.struct fs)) (h : Sz P t (.agg (xs.map (·.1)))) {j : Nat} {f : Field} {y : DataW H × List MemPlace} (hf : fs[j]? = some f) (hy : xs[j]? = some y) : Sz P f.type y.1 := by
  intro z hz
  apply h z
  rw [DataW.weights, he]
  exact DataW.weights_mem_each (j := j) (t := f.type) (by simp [hf]) (by simp [hy]) z hz
theorem weights_mem_all {P : Program} {e : TypeId} : ∀ (ds : List (DataW H)) (i : Nat) (d : DataW H), ds[i]? = some d → ∀ z ∈ d.weights P e, z ∈ DataW.weightsAll P e ds
  | [], i, d, h, _, _ => by simp at h
  | x :: r, 0, d, h, z, hz => by
    obtain rfl : x = d := by simpa using h
    rw [DataW.weightsAll]
    exact List.mem_append_left _ hz
  | x :: r, i + 1, d, h, z, hz => by
    rw [DataW.weightsAll]
    exact List.mem_append_right _ (weights_mem_all r i d (by simpa using h) z hz)
theorem Sz.elem {P : Program} {t e : TypeId} {xs ys : List (DataW H × List MemPlace)} (he : P.underlying t = some (.slice e)) (h : Sz P t (.slice (xs.map (·.1)) (ys.map (·.1)))) {j : Nat} {y : DataW H × List MemPlace} (hy : xs[j]? = some y) : Sz P e y.1 := by
  intro z hz
  apply h z
  rw [DataW.weights, he]
  exact List.mem_cons_of_mem _ (List.mem_append_left _ (weights_mem_all _ j _ (by simp [hy]) z hz))
theorem Sz.len {P : Program} {t e : TypeId} {xs ys : List (DataW H × List MemPlace)} (he : P.underlying t = some (.slice e)) (hb : 0 < P.bytesOf e) (h : Sz P t (.slice (xs.map (·.1)) (ys.map (·.1)))) : xs.length ≤ 140737488351232 := by
  have := h ((xs.length + ys.length) * P.bytesOf e) (by rw [DataW.weights, he]; simp)
  have h2 : (xs.length + ys.length) * 1 ≤ (xs.length + ys.length) * P.bytesOf e := Nat.mul_le_mul_left _ hb
  have h3 : reachBytes = 140737488351232 := rfl
  omega
theorem open_cells {P : Program} {t : TypeId} {fs : Array Field} {fuel : Nat} {cs : List Value} {x : DataW H × List MemPlace} (he : P.underlying t = some (.struct fs))
    (hone : oneCellFields P fs = true) (hC : P.cellsOf t = fs.size) (h : DataW.trod enc P w base spare held fuel t cs = some x) :
    ∃ n, fuel = n + 1 ∧ cs.length = fs.size ∧ ∀ (j : Nat) (f : Field), fs[j]? = some f → ∃ v y, cs[j]? = some v ∧ DataW.trod enc P w base spare held n f.type [v] = some y ∧ (Sz P t x.1 → Sz P f.type y.1) := by
  obtain ⟨ys, n, hn, rfl, hlen, hyl, hf⟩ := DataW.trod_struct he h
  refine ⟨n, hn, hlen.trans hC, fun j f hj => ?_⟩
  obtain ⟨ho, hk⟩ := hone_of hone j f hj
  have hjl : j < fs.size := (Array.getElem?_eq_some_iff.1 hj).1
  have h1 := hf j f hj
  rw [ho, hk, List.drop_eq_getElem_cons (by omega), List.take_succ_cons, List.take_zero] at h1
  have hy : ys[j]? = some (ys[j]'(by omega)) := List.getElem?_eq_getElem (by omega)
  exact ⟨_, _, List.getElem?_eq_getElem (by omega), h1.trans hy, fun hs => Sz.part he hs hj hy⟩
set_option maxRecDepth 100000 in
theorem attr_fields : ∃ f0 f1 f2 f3 : Field, Tryd.prog.underlying 37 = some (.struct #[f0, f1, f2, f3]) ∧ f0.type = 9 ∧ f1.type = 9 ∧ f2.type = 9 ∧ f3.type = 3 ∧ oneCellFields Tryd.prog #[f0, f1, f2, f3] = true ∧ Tryd.prog.cellsOf 37 = 4 := by
  obtain ⟨fs, hS, hF, ho, hC⟩ : ∃ fs : Array Field, Tryd.prog.underlying 37 = some (.struct fs) ∧ fs.toList.map Field.type = [9, 9, 9, 3] ∧ oneCellFields Tryd.prog fs = true ∧ Tryd.prog.cellsOf 37 = 4 := ⟨Tryd.prog.fieldsOf 37, by kernel_rfl, by kernel_rfl, by kernel_rfl, by kernel_rfl⟩
  obtain ⟨l⟩ := fs
  match l, hF with
  | [f0, f1, f2, f3], hF =>
    simp only [List.map_cons, List.map_nil, List.cons.injEq, and_true] at hF
    obtain ⟨h0, h1, h2, h3⟩ := hF
    exact ⟨f0, f1, f2, f3, hS, h0, h1, h2, h3, ho, hC⟩
set_option maxRecDepth 100000 in
theorem node_fields : ∃ f0 f1 f2 f3 f4 f5 f6 : Field, Tryd.prog.underlying 25 = some (.struct #[f0, f1, f2, f3, f4, f5, f6]) ∧ f0.type = 3 ∧ f1.type = 9 ∧ f2.type = 9 ∧ f3.type = 22 ∧ f4.type = 23 ∧ f5.type = 9 ∧ f6.type = 3 ∧ oneCellFields Tryd.prog #[f0, f1, f2, f3, f4, f5, f6] = true ∧ Tryd.prog.cellsOf 25 = 7 := by
  obtain ⟨fs, hS, hF, ho, hC⟩ : ∃ fs : Array Field, Tryd.prog.underlying 25 = some (.struct fs) ∧ fs.toList.map Field.type = [3, 9, 9, 22, 23, 9, 3] ∧ oneCellFields Tryd.prog fs = true ∧ Tryd.prog.cellsOf 25 = 7 := ⟨Tryd.prog.fieldsOf 25, by kernel_rfl, by kernel_rfl, by kernel_rfl, by kernel_rfl⟩
  obtain ⟨l⟩ := fs
  match l, hF with
  | [f0, f1, f2, f3, f4, f5, f6], hF =>
    simp only [List.map_cons, List.map_nil, List.cons.injEq, and_true] at hF
    obtain ⟨h0, h1, h2, h3, h4, h5, h6⟩ := hF
    exact ⟨f0, f1, f2, f3, f4, f5, f6, hS, h0, h1, h2, h3, h4, h5, h6, ho, hC⟩
theorem open_attr {fuel : Nat} {cs : List Value} {x : DataW H × List MemPlace} (h : DataW.trod enc Tryd.prog w base spare held fuel 37 cs = some x) : ∃ a : AttrD, cs = [.string a.sp, .string a.nm, .string a.va, .int .i64 a.at'] := by
  obtain ⟨f0, f1, f2, f3, hS, t0, t1, t2, t3, ho, hC⟩ := attr_fields
  obtain ⟨n, -, hl, hf⟩ := open_cells hS ho hC h
  match cs, hl with
  | [c0, c1, c2, c3], _ =>
    obtain ⟨v0, y0, e0, g0, -⟩ := hf 0 f0 rfl
    obtain ⟨v1, y1, e1, g1, -⟩ := hf 1 f1 rfl
    obtain ⟨v2, y2, e2, g2, -⟩ := hf 2 f2 rfl
    obtain ⟨v3, y3, e3, g3, -⟩ := hf 3 f3 rfl
    cases e0; cases e1; cases e2; cases e3
    rw [t0] at g0; rw [t1] at g1; rw [t2] at g2; rw [t3] at g3
    obtain ⟨s0, h0, -, -⟩ := DataW.trod_string Tryd.underlying9 g0
    obtain ⟨s1, h1, -, -⟩ := DataW.trod_string Tryd.underlying9 g1
    obtain ⟨s2, h2, -, -⟩ := DataW.trod_string Tryd.underlying9 g2
    obtain ⟨k3, h3, -, -⟩ := DataW.trod_int Tryd.underlying3 g3
    cases h0; cases h1; cases h2; cases h3
    exact ⟨⟨s0, s1, s2, k3⟩, rfl⟩
theorem choose_list {α : Type} (len : Nat) (p : Nat → α → Prop) (h : ∀ i, i < len → ∃ a, p i a) : ∃ l : List α, l.length = len ∧ ∀ i (hi : i < l.length), p i l[i] := by
  induction len with
  | zero => exact ⟨[], rfl, fun i hi => absurd hi (Nat.not_lt_zero _)⟩
  | succ k ih =>
    obtain ⟨l, hl, hp⟩ := ih fun i hi => h i (by omega)
    obtain ⟨a, ha⟩ := h k (by omega)
    refine ⟨l ++ [a], by rw [List.length_append, hl]; rfl, fun i hi => ?_⟩
    rw [List.length_append, hl] at hi
    by_cases h' : i < l.length
    · rw [List.getElem_append_left h']
      exact hp i h'
    · have : i = k := by simp at hi; omega
      subst this
      rw [List.getElem_append_right (by omega)]
      simpa [hl] using ha
theorem open_attrs {fuel : Nat} {v : Value} {x : DataW H × List MemPlace} (h : DataW.trod enc Tryd.prog w base spare held fuel 22 [v] = some x) (hz : Sz Tryd.prog 22 x.1) : ∃ p c al, v = .slice p al.length c ∧ AttrsAt w p al ∧ al.length ≤ 140737488351232 := by
  obtain ⟨-, -, -, -, -, -, -, -, -, -, hC⟩ := attr_fields
  have hu : Tryd.prog.underlying 22 = some (.slice 37) := by kernel_rfl
  rcases DataW.trod_slice hu h with ⟨hv, -⟩ | ⟨a, len, cap, elems, rest, n, -, hv, rfl, hb, hl, hm, he, hE, -, -⟩
  · cases hv
    exact ⟨none, 0, [], rfl, (fun i hi => absurd hi (Nat.not_lt_zero _)), by simp⟩
  · cases hv
    rw [hC] at hE
    obtain ⟨al, hal, hat⟩ := choose_list len (fun i (y : AttrD) => w.cell? (a.add (i * 4)) = some (.string y.sp) ∧ w.cell? ((a.add (i * 4)).add 1) = some (.string y.nm) ∧ w.cell? ((a.add (i * 4)).add 2) = some (.string y.va) ∧ w.cell? ((a.add (i * 4)).add 3) = some (.int .i64 y.at')) (fun i hi => by
      have h1 := hE i hi
      rw [List.getElem?_eq_getElem (by omega)] at h1
      obtain ⟨cs, hc, ht⟩ := Option.bind_eq_some_iff.1 h1
      obtain ⟨y, rfl⟩ := open_attr ht
      obtain ⟨-, -, hg⟩ := World.cells?_some hc
      exact ⟨y, hg 0 (by omega), by simpa using hg 1 (by omega), by simpa using hg 2 (by omega), by simpa using hg 3 (by omega)⟩)
    refine ⟨some a, cap, al, by rw [hal], fun i hi => ⟨a, rfl, hat i hi⟩, ?_⟩
    rw [hal, ← he]
    exact Sz.len hu (by decide +kernel) hz
theorem kids_at {p : Addr} : ∀ (l : List NodeD) (j : Nat), (∀ i (hi : i < l.length), ∃ cs, w.cells? base (p.add ((j + i) * 7)) 7 = some cs ∧ NodeIs w l[i] (.agg cs.toArray)) → KidsAt w (some p) j l
  | [], j, _ => by rw [KidsAt]; trivial
  | k :: r, j, h => by
    rw [KidsAt]
    refine ⟨?_, kids_at r (j + 1) fun i hi => ?_⟩
    · obtain ⟨cs, hc, hn⟩ := h 0 (by simp)
      obtain ⟨-, hl, hg⟩ := World.cells?_some hc
      match cs, hl with
      | [v0, v1, v2, v3, v4, v5, v6], _ =>
        exact ⟨p, v0, v1, v2, v3, v4, v5, v6, rfl, ⟨hg 0 (by omega), by simpa using hg 1 (by omega), by simpa using hg 2 (by omega), by simpa using hg 3 (by omega), by simpa using hg 4 (by omega), by simpa using hg 5 (by omega), by simpa using hg 6 (by omega)⟩, hn⟩
    · obtain ⟨cs, hc, hn⟩ := h (i + 1) (by simpa using hi)
      exact ⟨cs, by rw [show j + 1 + i = j + (i + 1) by omega]; exact hc, hn⟩
theorem wfs_all : ∀ l : List NodeD, (∀ i (hi : i < l.length), l[i].WF) → WFs l
  | [], _ => by rw [WFs]; trivial
  | k :: r, h => by
    rw [WFs]
    exact ⟨h 0 (by simp), wfs_all r fun i hi => h (i + 1) (by simpa using hi)⟩
theorem open_node : ∀ (fuel : Nat) (cs : List Value) (x : DataW H × List MemPlace), DataW.trod enc Tryd.prog w base spare held fuel 25 cs = some x → Sz Tryd.prog 25 x.1 → ∃ n : NodeD, NodeIs w n (.agg cs.toArray) ∧ n.WF := by
  intro fuel
  induction fuel using Nat.strongRecOn with
  | ind fuel ih =>
    intro cs x h hz
    obtain ⟨f0, f1, f2, f3, f4, f5, f6, hS, t0, t1, t2, t3, t4, t5, t6, ho, hC⟩ := node_fields
    obtain ⟨n, hn, hl, hf⟩ := open_cells hS ho hC h
    match cs, hl with
    | [c0, c1, c2, c3, c4, c5, c6], _ =>
      obtain ⟨v0, y0, e0, g0, -⟩ := hf 0 f0 rfl
      obtain ⟨v1, y1, e1, g1, -⟩ := hf 1 f1 rfl
      obtain ⟨v2, y2, e2, g2, -⟩ := hf 2 f2 rfl
      obtain ⟨v3, y3, e3, g3, z3⟩ := hf 3 f3 rfl
      obtain ⟨v4, y4, e4, g4, z4⟩ := hf 4 f4 rfl
      obtain ⟨v5, y5, e5, g5, -⟩ := hf 5 f5 rfl
      obtain ⟨v6, y6, e6, g6, -⟩ := hf 6 f6 rfl
      cases e0; cases e1; cases e2; cases e3; cases e4; cases e5; cases e6
      rw [t0] at g0; rw [t1] at g1; rw [t2] at g2; rw [t3] at g3 z3; rw [t4] at g4 z4; rw [t5] at g5; rw [t6] at g6
      obtain ⟨k0, h0, -, -⟩ := DataW.trod_int Tryd.underlying3 g0
      obtain ⟨s1, h1, -, -⟩ := DataW.trod_string Tryd.underlying9 g1
      obtain ⟨s2, h2, -, -⟩ := DataW.trod_string Tryd.underlying9 g2
      obtain ⟨pa, ca, al, h3, ha, hla⟩ := open_attrs g3 (z3 hz)
      obtain ⟨s5, h5, -, -⟩ := DataW.trod_string Tryd.underlying9 g5
      obtain ⟨k6, h6, -, -⟩ := DataW.trod_int Tryd.underlying3 g6
      cases h0; cases h1; cases h2; cases h3; cases h5; cases h6
      have hu : Tryd.prog.underlying 23 = some (.slice 25) := by kernel_rfl
      have z4' := z4 hz
      rcases DataW.trod_slice hu g4 with ⟨hv, -⟩ | ⟨a, len, cap, elems, rest, n', hn', hv, rfl, hb, hle, hm, he, hE, -, -⟩
      · cases hv
        refine ⟨.mk k0 s1 s2 al [] s5 k6, ?_, ?_⟩
        · rw [NodeIs]
          exact ⟨pa, ca, none, 0, rfl, ha, by rw [KidsAt]; trivial⟩
        · rw [NodeD.WF, WFs]
          exact ⟨hla, by simp, trivial⟩
      · cases hv
        rw [hC] at hE
        obtain ⟨kids, hk, hkt⟩ := choose_list len (fun i (y : NodeD) => (∃ cs, w.cells? base (a.add (i * 7)) 7 = some cs ∧ NodeIs w y (.agg cs.toArray)) ∧ y.WF) (fun i hi => by
          have h1 := hE i hi
          rw [List.getElem?_eq_getElem (by omega)] at h1
          obtain ⟨cs, hc, ht⟩ := Option.bind_eq_some_iff.1 h1
          obtain ⟨y, hy, hw⟩ := ih n' (by omega) _ _ ht (Sz.elem hu z4' (List.getElem?_eq_getElem (by omega)))
          exact ⟨y, ⟨cs, hc, hy⟩, hw⟩)
        refine ⟨.mk k0 s1 s2 al kids s5 k6, ?_, ?_⟩
        · rw [NodeIs]
          refine ⟨pa, ca, some a, cap, by rw [hk], ha, kids_at (base := base) kids 0 fun i hi => ?_⟩
          rw [Nat.zero_add]
          exact (hkt i hi).1
        · rw [NodeD.WF]
          refine ⟨hla, ?_, wfs_all kids fun i hi => (hkt i hi).2⟩
          rw [hk, ← he]
          exact Sz.len hu (by decide +kernel) z4'
end
end Go.Proofs.YtppmoeidgefkpaaDoor
end
