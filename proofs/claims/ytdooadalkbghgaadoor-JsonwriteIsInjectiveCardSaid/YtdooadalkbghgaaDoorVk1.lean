/- Packed from the texts JzO JwO. -/
import Derived.Test.YtdooadalkbghgaaDoorVkS
import Derived.Test.YtdooadalkbghgaaDoorVkU
import Derived.Carry
import Derived.Deep.Fields
import Derived.ProofKit
section
namespace Go.Proofs.YtdooadalkbghgaaDoor
open Go.RowKit Go.Deep
section
variable {H : Type} {enc : TypeId × Value → H} {w : World} {base : Nat} {spare : Nat → Bool} {held : Bool}
def Sj (P : Program) (t : TypeId) (d : DataW H) : Prop := ∀ z ∈ d.weights P t, z ≤ reachBytes
theorem Sj.part {P : Program} {t : TypeId} {fs : Array Field} {xs : List (DataW H × List MemPlace)} (he : P.underlying t = some (.struct fs)) (h : Sj P t (.agg (xs.map (·.1)))) {j : Nat} {f : Field} {y : DataW H × List MemPlace} (hf : fs[j]? = some f) (hy : xs[j]? = some y) : Sj P f.type y.1 := by
  intro z hz
  apply h z
  rw [DataW.weights, he]
  exact DataW.weights_mem_each (j := j) (t := f.type) (by simp [hf]) (by simp [hy]) z hz
theorem jweights_all {P : Program} {e : TypeId} : ∀ (ds : List (DataW H)) (i : Nat) (d : DataW H), ds[i]? = some d → ∀ z ∈ d.weights P e, z ∈ DataW.weightsAll P e ds
  | [], i, d, h, _, _ => by simp at h
  | x :: r, 0, d, h, z, hz => by
    obtain rfl : x = d := by simpa using h
    rw [DataW.weightsAll]
    exact List.mem_append_left _ hz
  | x :: r, i + 1, d, h, z, hz => by
    rw [DataW.weightsAll]
    exact List.mem_append_right _ (jweights_all r i d (by simpa using h) z hz)
theorem Sj.elem {P : Program} {t e : TypeId} {xs ys : List (DataW H × List MemPlace)} (he : P.underlying t = some (.slice e)) (h : Sj P t (.slice (xs.map (·.1)) (ys.map (·.1)))) {j : Nat} {y : DataW H × List MemPlace} (hy : xs[j]? = some y) : Sj P e y.1 := by
  intro z hz
  apply h z
  rw [DataW.weights, he]
  exact List.mem_cons_of_mem _ (List.mem_append_left _ (jweights_all _ j _ (by simp [hy]) z hz))
theorem Sj.len {P : Program} {t e : TypeId} {xs ys : List (DataW H × List MemPlace)} (he : P.underlying t = some (.slice e)) (hb : 0 < P.bytesOf e) (h : Sj P t (.slice (xs.map (·.1)) (ys.map (·.1)))) : xs.length ≤ 140737488351232 := by
  have := h ((xs.length + ys.length) * P.bytesOf e) (by rw [DataW.weights, he]; simp)
  have h2 : (xs.length + ys.length) * 1 ≤ (xs.length + ys.length) * P.bytesOf e := Nat.mul_le_mul_left _ hb
  have h3 : reachBytes = 140737488351232 := rfl
  omega
theorem jopen_cells {P : Program} {t : TypeId} {fs : Array Field} {fuel : Nat} {cs : List Value} {x : DataW H × List MemPlace} (he : P.underlying t = some (.struct fs)) (h : DataW.trod enc P w base spare held fuel t cs = some x) :
    ∃ n, fuel = n + 1 ∧ cs.length = P.cellsOf t ∧ ∀ (j : Nat) (f : Field), fs[j]? = some f → ∃ y, DataW.trod enc P w base spare held n f.type ((cs.drop f.offset).take (P.cellsOf f.type)) = some y ∧ (Sj P t x.1 → Sj P f.type y.1) := by
  obtain ⟨ys, n, hn, rfl, hlen, hyl, hf⟩ := DataW.trod_struct he h
  refine ⟨n, hn, hlen, fun j f hj => ?_⟩
  have hjl : j < fs.size := (Array.getElem?_eq_some_iff.1 hj).1
  have hy : ys[j]? = some (ys[j]'(by omega)) := List.getElem?_eq_getElem (by omega)
  exact ⟨_, (hf j f hj).trans hy, fun hs => Sj.part he hs hj hy⟩
set_option maxRecDepth 100000 in
theorem jval_fields : ∃ f0 f1 f2 f3 f4 f5 f6 : Field, Tryd.prog.underlying 25 = some (.struct #[f0, f1, f2, f3, f4, f5, f6]) ∧ [f0.type, f1.type, f2.type, f3.type, f4.type, f5.type, f6.type] = [3, 4, 2, 9, 22, 23, 3] ∧ [f0.offset, f1.offset, f2.offset, f3.offset, f4.offset, f5.offset, f6.offset] = [0, 1, 2, 3, 4, 5, 6] ∧ Tryd.prog.cellsOf 25 = 7 := by
  obtain ⟨fs, hS, hF, ho, hC⟩ : ∃ fs : Array Field, Tryd.prog.underlying 25 = some (.struct fs) ∧ fs.toList.map Field.type = [3, 4, 2, 9, 22, 23, 3] ∧ fs.toList.map Field.offset = [0, 1, 2, 3, 4, 5, 6] ∧ Tryd.prog.cellsOf 25 = 7 := ⟨Tryd.prog.fieldsOf 25, by kernel_rfl, by kernel_rfl, by kernel_rfl, by kernel_rfl⟩
  obtain ⟨l⟩ := fs
  match l, hF with
  | [f0, f1, f2, f3, f4, f5, f6], hF => exact ⟨f0, f1, f2, f3, f4, f5, f6, hS, hF, ho, hC⟩
set_option maxRecDepth 100000 in
theorem jmem_fields : ∃ f0 f1 f2 : Field, Tryd.prog.underlying 36 = some (.struct #[f0, f1, f2]) ∧ [f0.type, f1.type, f2.type] = [9, 25, 3] ∧ [f0.offset, f1.offset, f2.offset] = [0, 1, 8] ∧ Tryd.prog.cellsOf 36 = 9 := by
  obtain ⟨fs, hS, hF, ho, hC⟩ : ∃ fs : Array Field, Tryd.prog.underlying 36 = some (.struct fs) ∧ fs.toList.map Field.type = [9, 25, 3] ∧ fs.toList.map Field.offset = [0, 1, 8] ∧ Tryd.prog.cellsOf 36 = 9 := ⟨Tryd.prog.fieldsOf 36, by kernel_rfl, by kernel_rfl, by kernel_rfl, by kernel_rfl⟩
  obtain ⟨l⟩ := fs
  match l, hF with
  | [f0, f1, f2], hF => exact ⟨f0, f1, f2, hS, hF, ho, hC⟩
theorem jone : Tryd.prog.cellsOf 3 = 1 ∧ Tryd.prog.cellsOf 4 = 1 ∧ Tryd.prog.cellsOf 2 = 1 ∧ Tryd.prog.cellsOf 9 = 1 ∧ Tryd.prog.cellsOf 22 = 1 ∧ Tryd.prog.cellsOf 23 = 1 ∧ Tryd.prog.cellsOf 3 = 1 := ⟨by kernel_rfl, by kernel_rfl, by kernel_rfl, by kernel_rfl, by kernel_rfl, by kernel_rfl, by kernel_rfl⟩
theorem jlist_nine {α : Type} {l : List α} (h : l.length = 9) : ∃ a b c d e f g i j, l = [a, b, c, d, e, f, g, i, j] := by
  match l, h with
  | [a, b, c, d, e, f, g, i, j], _ => exact ⟨a, b, c, d, e, f, g, i, j, rfl⟩
theorem jchoose {α : Type} (len : Nat) (p : Nat → α → Prop) (h : ∀ i, i < len → ∃ a, p i a) : ∃ l : List α, l.length = len ∧ ∀ i (hi : i < l.length), p i l[i] := by
  induction len with
  | zero => exact ⟨[], rfl, fun i hi => absurd hi (Nat.not_lt_zero _)⟩
  | succ k ih =>
    obtain ⟨l, hl, hp⟩ := ih fun i hi => h i (by omega)
    obtain ⟨a, ha⟩ := h k (by omega)
    refine ⟨l ++ [a], by rw [List.length_append, hl]; rfl, fun i hi => ?_⟩
    rw [List.length_append, hl] at hi
    by_cases h' : i < l.length
    · rw [List.getElem_append_left h']
      exact hp i h'
    · have : i = k := by simp at hi; omega
      subst this
      rw [List.getElem_append_right (by omega)]
      simpa [hl] using ha
theorem items_at {p : Addr} : ∀ (l : List ValD) (j : Nat), (∀ i (hi : i < l.length), ∃ cs, w.cells? base (p.add ((j + i) * 7)) 7 = some cs ∧ ValIs w l[i] (.agg cs.toArray)) → ItemsAt w (some p) j l
  | [], j, _ => by rw [ItemsAt]; trivial
  | k :: r, j, h => by
    rw [ItemsAt]
    refine ⟨?_, items_at r (j + 1) fun i hi => ?_⟩
    · obtain ⟨cs, hc, hn⟩ := h 0 (by simp)
      obtain ⟨-, hl, hg⟩ := World.cells?_some hc
      match cs, hl with
      | [v0, v1, v2, v3, v4, v5, v6], _ =>
        exact ⟨p, v0, v1, v2, v3, v4, v5, v6, rfl, ⟨hg 0 (by omega), by simpa using hg 1 (by omega), by simpa using hg 2 (by omega), by simpa using hg 3 (by omega), by simpa using hg 4 (by omega), by simpa using hg 5 (by omega), by simpa using hg 6 (by omega)⟩, hn⟩
    · obtain ⟨cs, hc, hn⟩ := h (i + 1) (by simpa using hi)
      exact ⟨cs, by rw [show j + 1 + i = j + (i + 1) by omega]; exact hc, hn⟩
theorem mems_at {p : Addr} : ∀ (l : List MemD) (j : Nat), (∀ i (hi : i < l.length), ∃ v0 v1 v2 v3 v4 v5 v6, w.cells? base (p.add ((j + i) * 9)) 9 = some [.string l[i].key, v0, v1, v2, v3, v4, v5, v6, .int .i64 l[i].at'] ∧ ValIs w l[i].v (.agg #[v0, v1, v2, v3, v4, v5, v6])) → MemsAt w (some p) j l
  | [], j, _ => by rw [MemsAt]; trivial
  | k :: r, j, h => by
    rw [MemsAt]
    refine ⟨(mem_at w _ _ _).2 ?_, mems_at r (j + 1) fun i hi => ?_⟩
    · obtain ⟨v0, v1, v2, v3, v4, v5, v6, hc, hn⟩ := h 0 (by simp)
      obtain ⟨-, hl, hg⟩ := World.cells?_some hc
      exact ⟨p, v0, v1, v2, v3, v4, v5, v6, rfl, ⟨hg 0 (by omega), by simpa using hg 1 (by omega), by simpa using hg 2 (by omega), by simpa using hg 3 (by omega), by simpa using hg 4 (by omega), by simpa using hg 5 (by omega), by simpa using hg 6 (by omega), by simpa using hg 7 (by omega), by simpa using hg 8 (by omega)⟩, hn⟩
    · obtain ⟨v0, v1, v2, v3, v4, v5, v6, hc, hn⟩ := h (i + 1) (by simpa using hi)
      exact ⟨v0, v1, v2, v3, v4, v5, v6, by rw [show j + 1 + i = j + (i + 1) by omega]; exact hc, hn⟩
theorem vwfs_all : ∀ l : List ValD, (∀ i (hi : i < l.length), l[i].WF) → VWFs l
  | [], _ => by rw [VWFs]; trivial
  | k :: r, h => by
    rw [VWFs]
    exact ⟨h 0 (by simp), vwfs_all r fun i hi => h (i + 1) (by simpa using hi)⟩
theorem mwfs_all : ∀ l : List MemD, (∀ i (hi : i < l.length), l[i].v.WF) → MWFs l
  | [], _ => by rw [MWFs]; trivial
  | k :: r, h => by
    rw [MWFs]
    exact ⟨(mwf_eq _).2 (h 0 (by simp)), mwfs_all r fun i hi => h (i + 1) (by simpa using hi)⟩
set_option maxRecDepth 100000 in
theorem open_val : ∀ (fuel : Nat) (cs : List Value) (x : DataW H × List MemPlace), DataW.trod enc Tryd.prog w base spare held fuel 25 cs = some x → Sj Tryd.prog 25 x.1 → ∃ n : ValD, ValIs w n (.agg cs.toArray) ∧ n.WF := by
  intro fuel
  induction fuel using Nat.strongRecOn with
  | ind fuel ih =>
    intro cs x h hz
    obtain ⟨f0, f1, f2, f3, f4, f5, f6, hS, hT, hO, hC⟩ := jval_fields
    simp only [List.cons.injEq, and_true] at hT hO
    obtain ⟨t0, t1, t2, t3, t4, t5, t6⟩ := hT
    obtain ⟨o0, o1, o2, o3, o4, o5, o6⟩ := hO
    obtain ⟨u0, u1, u2, u3, u4, u5, u6⟩ := jone
    obtain ⟨n, hn, hl, hf⟩ := jopen_cells hS h
    rw [hC] at hl
    match cs, hl with
    | [c0, c1, c2, c3, c4, c5, c6], _ =>
      obtain ⟨y0, g0, -⟩ := hf 0 f0 rfl
      obtain ⟨y1, g1, -⟩ := hf 1 f1 rfl
      obtain ⟨y2, g2, -⟩ := hf 2 f2 rfl
      obtain ⟨y3, g3, -⟩ := hf 3 f3 rfl
      obtain ⟨y4, g4, z4⟩ := hf 4 f4 rfl
      obtain ⟨y5, g5, z5⟩ := hf 5 f5 rfl
      obtain ⟨y6, g6, -⟩ := hf 6 f6 rfl
      rw [t0, o0, u0] at g0; rw [t1, o1, u1] at g1; rw [t2, o2, u2] at g2; rw [t3, o3, u3] at g3; rw [t4, o4, u4] at g4; rw [t5, o5, u5] at g5; rw [t6, o6, u6] at g6
      rw [t4] at z4; rw [t5] at z5
      obtain ⟨k0, h0, -, -⟩ := DataW.trod_int Tryd.underlying3 g0
      obtain ⟨k1, h1, -⟩ := DataW.trod_bool Tryd.underlying4 g1
      obtain ⟨k2, h2, -, -⟩ := DataW.trod_int Tryd.underlying2 g2
      obtain ⟨s3, h3, -, -⟩ := DataW.trod_string Tryd.underlying9 g3
      obtain ⟨k6, h6, -, -⟩ := DataW.trod_int Tryd.underlying3 g6
      cases h0; cases h1; cases h2; cases h3; cases h6
      have hu : Tryd.prog.underlying 22 = some (.slice 25) := by kernel_rfl
      have hum : Tryd.prog.underlying 23 = some (.slice 36) := by kernel_rfl
      have z4' := z4 hz
      have z5' := z5 hz
      obtain ⟨p, c, items, e4, hI, hIl, hIw⟩ : ∃ p c items, c4 = .slice p (List.length items) c ∧ ItemsAt w p 0 items ∧ items.length ≤ 140737488351232 ∧ VWFs items := by
        rcases DataW.trod_slice hu g4 with ⟨hv, -⟩ | ⟨a, len, cap, elems, rest, n', hn', hv, rfl, hb, hle, hm, he, hE, -, -⟩
        · cases hv
          exact ⟨none, 0, [], rfl, by rw [ItemsAt]; trivial, by simp, by rw [VWFs]; trivial⟩
        · cases hv
          rw [hC] at hE
          obtain ⟨kids, hk, hkt⟩ := jchoose len (fun i (y : ValD) => (∃ cs, w.cells? base (a.add (i * 7)) 7 = some cs ∧ ValIs w y (.agg cs.toArray)) ∧ y.WF) (fun i hi => by
            have h1 := hE i hi
            rw [List.getElem?_eq_getElem (by omega)] at h1
            obtain ⟨cs, hc, ht⟩ := Option.bind_eq_some_iff.1 h1
            obtain ⟨y, hy, hw⟩ := ih n' (by omega) _ _ ht (Sj.elem hu z4' (List.getElem?_eq_getElem (by omega)))
            exact ⟨y, ⟨cs, hc, hy⟩, hw⟩)
          refine ⟨some a, cap, kids, by rw [hk], items_at (base := base) kids 0 fun i hi => ?_, ?_, vwfs_all kids fun i hi => (hkt i hi).2⟩
          · rw [Nat.zero_add]
            exact (hkt i hi).1
          · rw [hk, ← he]
            exact Sj.len hu (by decide +kernel) z4'
      obtain ⟨q, d, mems, e5, hM, hMl, hMw⟩ : ∃ q d mems, c5 = .slice q (List.length mems) d ∧ MemsAt w q 0 mems ∧ mems.length ≤ 140737488351232 ∧ MWFs mems := by
        rcases DataW.trod_slice hum g5 with ⟨hv, -⟩ | ⟨a, len, cap, elems, rest, n', hn', hv, rfl, hb, hle, hm, he, hE, -, -⟩
        · cases hv
          exact ⟨none, 0, [], rfl, by rw [MemsAt]; trivial, by simp, by rw [MWFs]; trivial⟩
        · cases hv
          obtain ⟨m0, m1, m2, hS', hT', hO', hC'⟩ := jmem_fields
          simp only [List.cons.injEq, and_true] at hT' hO'
          obtain ⟨r0, r1, r2⟩ := hT'
          obtain ⟨q0, q1, q2⟩ := hO'
          rw [hC'] at hE
          obtain ⟨kids, hk, hkt⟩ := jchoose len (fun i (y : MemD) => (∃ v0 v1 v2 v3 v4 v5 v6, w.cells? base (a.add (i * 9)) 9 = some [.string y.key, v0, v1, v2, v3, v4, v5, v6, .int .i64 y.at'] ∧ ValIs w y.v (.agg #[v0, v1, v2, v3, v4, v5, v6])) ∧ y.v.WF) (fun i hi => by
            have h1 := hE i hi
            rw [List.getElem?_eq_getElem (by omega)] at h1
            obtain ⟨cs, hc, ht⟩ := Option.bind_eq_some_iff.1 h1
            obtain ⟨n2, hn2, hl2, hf2⟩ := jopen_cells hS' ht
            rw [hC'] at hl2
            have hz2 := Sj.elem hum z5' (List.getElem?_eq_getElem (l := elems) (i := i) (by omega))
            obtain ⟨e0, e1, e2, e3, e4, e5, e6, e7, e8, rfl⟩ := jlist_nine hl2
            · obtain ⟨x0, i0, -⟩ := hf2 0 m0 rfl
              obtain ⟨x1, i1, zz1⟩ := hf2 1 m1 rfl
              obtain ⟨x2, i2, -⟩ := hf2 2 m2 rfl
              rw [r0, q0, u3] at i0
              rw [r1, q1, hC] at i1
              rw [r2, q2, u6] at i2
              rw [r1] at zz1
              obtain ⟨s0, hs0, -, -⟩ := DataW.trod_string Tryd.underlying9 i0
              obtain ⟨k2, hk2, -, -⟩ := DataW.trod_int Tryd.underlying3 i2
              cases hs0; cases hk2
              obtain ⟨y, hy, hw⟩ := ih n2 (by omega) _ _ i1 (zz1 hz2)
              exact ⟨.mk s0 y k2, ⟨e1, e2, e3, e4, e5, e6, e7, hc, hy⟩, hw⟩)
          refine ⟨some a, cap, kids, by rw [hk], mems_at (base := base) kids 0 fun i hi => ?_, ?_, mwfs_all kids fun i hi => (hkt i hi).2⟩
          · rw [Nat.zero_add]
            exact (hkt i hi).1
          · rw [hk, ← he]
            exact Sj.len hum (by decide +kernel) z5'
      subst e4; subst e5
      refine ⟨.mk k0 k1 k2 s3 items mems k6, ?_, ?_⟩
      · rw [ValIs]
        exact ⟨p, c, q, d, rfl, hI, hM⟩
      · rw [ValD.WF]
        exact ⟨hIl, hMl, hIw, hMw⟩
end
end Go.Proofs.YtdooadalkbghgaaDoor
end
section
namespace Go.Proofs.YtdooadalkbghgaaDoor
open Go.RowKit Go.Deep
theorem r64s_all : ∀ l : List ValD, (∀ i (hi : i < l.length), l[i].R64) → R64s l
  | [], _ => by rw [R64s]; trivial
  | k :: r, h => by
    rw [R64s]
    exact ⟨h 0 (by simp), r64s_all r fun i hi => h (i + 1) (by simpa using hi)⟩
theorem r64m_all : ∀ l : List MemD, (∀ i (hi : i < l.length), l[i].v.R64) → R64m l
  | [], _ => by rw [R64m]; trivial
  | k :: r, h => by
    rw [R64m]
    exact ⟨(mr64_eq _).2 (h 0 (by simp)), r64m_all r fun i hi => h (i + 1) (by simpa using hi)⟩
section
variable {H : Type} {enc : TypeId × Value → H} {w : World} {base : Nat} {spare : Nat → Bool} {held : Bool}
set_option maxRecDepth 100000 in
theorem open_valR : ∀ (fuel : Nat) (cs : List Value) (x : DataW H × List MemPlace), DataW.trod enc Tryd.prog w base spare held fuel 25 cs = some x → Sj Tryd.prog 25 x.1 → ∃ n : ValD, ValIs w n (.agg cs.toArray) ∧ n.WF ∧ n.R64 := by
  intro fuel
  induction fuel using Nat.strongRecOn with
  | ind fuel ih =>
    intro cs x h hz
    obtain ⟨f0, f1, f2, f3, f4, f5, f6, hS, hT, hO, hC⟩ := jval_fields
    simp only [List.cons.injEq, and_true] at hT hO
    obtain ⟨t0, t1, t2, t3, t4, t5, t6⟩ := hT
    obtain ⟨o0, o1, o2, o3, o4, o5, o6⟩ := hO
    obtain ⟨u0, u1, u2, u3, u4, u5, u6⟩ := jone
    obtain ⟨n, hn, hl, hf⟩ := jopen_cells hS h
    rw [hC] at hl
    match cs, hl with
    | [c0, c1, c2, c3, c4, c5, c6], _ =>
      obtain ⟨y0, g0, -⟩ := hf 0 f0 rfl
      obtain ⟨y1, g1, -⟩ := hf 1 f1 rfl
      obtain ⟨y2, g2, -⟩ := hf 2 f2 rfl
      obtain ⟨y3, g3, -⟩ := hf 3 f3 rfl
      obtain ⟨y4, g4, z4⟩ := hf 4 f4 rfl
      obtain ⟨y5, g5, z5⟩ := hf 5 f5 rfl
      obtain ⟨y6, g6, -⟩ := hf 6 f6 rfl
      rw [t0, o0, u0] at g0; rw [t1, o1, u1] at g1; rw [t2, o2, u2] at g2; rw [t3, o3, u3] at g3; rw [t4, o4, u4] at g4; rw [t5, o5, u5] at g5; rw [t6, o6, u6] at g6
      rw [t4] at z4; rw [t5] at z5
      obtain ⟨k0, h0, -, -⟩ := DataW.trod_int Tryd.underlying3 g0
      obtain ⟨k1, h1, -⟩ := DataW.trod_bool Tryd.underlying4 g1
      obtain ⟨k2, h2, -, hk2⟩ := DataW.trod_int Tryd.underlying2 g2
      obtain ⟨s3, h3, -, -⟩ := DataW.trod_string Tryd.underlying9 g3
      obtain ⟨k6, h6, -, -⟩ := DataW.trod_int Tryd.underlying3 g6
      cases h0; cases h1; cases h2; cases h3; cases h6
      have hu : Tryd.prog.underlying 22 = some (.slice 25) := by kernel_rfl
      have hum : Tryd.prog.underlying 23 = some (.slice 36) := by kernel_rfl
      have z4' := z4 hz
      have z5' := z5 hz
      obtain ⟨p, c, items, e4, hI, hIl, hIw, hIr⟩ : ∃ p c items, c4 = .slice p (List.length items) c ∧ ItemsAt w p 0 items ∧ items.length ≤ 140737488351232 ∧ VWFs items ∧ R64s items := by
        rcases DataW.trod_slice hu g4 with ⟨hv, -⟩ | ⟨a, len, cap, elems, rest, n', hn', hv, rfl, hb, hle, hm, he, hE, -, -⟩
        · cases hv
          exact ⟨none, 0, [], rfl, by rw [ItemsAt]; trivial, by simp, by rw [VWFs]; trivial, by rw [R64s]; trivial⟩
        · cases hv
          rw [hC] at hE
          obtain ⟨kids, hk, hkt⟩ := jchoose len (fun i (y : ValD) => (∃ cs, w.cells? base (a.add (i * 7)) 7 = some cs ∧ ValIs w y (.agg cs.toArray)) ∧ y.WF ∧ y.R64) (fun i hi => by
            have h1 := hE i hi
            rw [List.getElem?_eq_getElem (by omega)] at h1
            obtain ⟨cs, hc, ht⟩ := Option.bind_eq_some_iff.1 h1
            obtain ⟨y, hy, hw⟩ := ih n' (by omega) _ _ ht (Sj.elem hu z4' (List.getElem?_eq_getElem (by omega)))
            exact ⟨y, ⟨cs, hc, hy⟩, hw⟩)
          refine ⟨some a, cap, kids, by rw [hk], items_at (base := base) kids 0 fun i hi => ?_, ?_, (vwfs_all kids fun i hi => (hkt i hi).2.1), r64s_all kids fun i hi => (hkt i hi).2.2⟩
          · rw [Nat.zero_add]
            exact (hkt i hi).1
          · rw [hk, ← he]
            exact Sj.len hu (by decide +kernel) z4'
      obtain ⟨q, d, mems, e5, hM, hMl, hMw, hMr⟩ : ∃ q d mems, c5 = .slice q (List.length mems) d ∧ MemsAt w q 0 mems ∧ mems.length ≤ 140737488351232 ∧ MWFs mems ∧ R64m mems := by
        rcases DataW.trod_slice hum g5 with ⟨hv, -⟩ | ⟨a, len, cap, elems, rest, n', hn', hv, rfl, hb, hle, hm, he, hE, -, -⟩
        · cases hv
          exact ⟨none, 0, [], rfl, by rw [MemsAt]; trivial, by simp, by rw [MWFs]; trivial, by rw [R64m]; trivial⟩
        · cases hv
          obtain ⟨m0, m1, m2, hS', hT', hO', hC'⟩ := jmem_fields
          simp only [List.cons.injEq, and_true] at hT' hO'
          obtain ⟨r0, r1, r2⟩ := hT'
          obtain ⟨q0, q1, q2⟩ := hO'
          rw [hC'] at hE
          obtain ⟨kids, hk, hkt⟩ := jchoose len (fun i (y : MemD) => (∃ v0 v1 v2 v3 v4 v5 v6, w.cells? base (a.add (i * 9)) 9 = some [.string y.key, v0, v1, v2, v3, v4, v5, v6, .int .i64 y.at'] ∧ ValIs w y.v (.agg #[v0, v1, v2, v3, v4, v5, v6])) ∧ y.v.WF ∧ y.v.R64) (fun i hi => by
            have h1 := hE i hi
            rw [List.getElem?_eq_getElem (by omega)] at h1
            obtain ⟨cs, hc, ht⟩ := Option.bind_eq_some_iff.1 h1
            obtain ⟨n2, hn2, hl2, hf2⟩ := jopen_cells hS' ht
            rw [hC'] at hl2
            have hz2 := Sj.elem hum z5' (List.getElem?_eq_getElem (l := elems) (i := i) (by omega))
            obtain ⟨e0, e1, e2, e3, e4, e5, e6, e7, e8, rfl⟩ := jlist_nine hl2
            · obtain ⟨x0, i0, -⟩ := hf2 0 m0 rfl
              obtain ⟨x1, i1, zz1⟩ := hf2 1 m1 rfl
              obtain ⟨x2, i2, -⟩ := hf2 2 m2 rfl
              rw [r0, q0, u3] at i0
              rw [r1, q1, hC] at i1
              rw [r2, q2, u6] at i2
              rw [r1] at zz1
              obtain ⟨s0, hs0, -, -⟩ := DataW.trod_string Tryd.underlying9 i0
              obtain ⟨k2, hk2, -, -⟩ := DataW.trod_int Tryd.underlying3 i2
              cases hs0; cases hk2
              obtain ⟨y, hy, hw⟩ := ih n2 (by omega) _ _ i1 (zz1 hz2)
              exact ⟨.mk s0 y k2, ⟨e1, e2, e3, e4, e5, e6, e7, hc, hy⟩, hw⟩)
          refine ⟨some a, cap, kids, by rw [hk], mems_at (base := base) kids 0 fun i hi => ?_, ?_, (mwfs_all kids fun i hi => (hkt i hi).2.1), r64m_all kids fun i hi => (hkt i hi).2.2⟩
          · rw [Nat.zero_add]
            exact (hkt i hi).1
          · rw [hk, ← he]
            exact Sj.len hum (by decide +kernel) z5'
      subst e4; subst e5
      refine ⟨.mk k0 k1 k2 s3 items mems k6, ?_, ?_⟩
      · rw [ValIs]
        exact ⟨p, c, q, d, rfl, hI, hM⟩
      · rw [ValD.WF, ValD.R64]
        exact ⟨⟨hIl, hMl, hIw, hMw⟩, by simpa [Lit.wf, IntKind.min, IntKind.max, IntKind.signed, IntKind.bits] using hk2, hIr, hMr⟩
theorem open_vals (fuel : Nat) (v : Value) (x : DataW H × List MemPlace) (h : DataW.trod enc Tryd.prog w base spare held fuel 22 [v] = some x) (hz : Sj Tryd.prog 22 x.1) : ∃ p c items, v = .slice p (List.length items) c ∧ ItemsAt w p 0 items ∧ items.length ≤ 140737488351232 ∧ VWFs items := by
  have hu : Tryd.prog.underlying 22 = some (.slice 25) := by kernel_rfl
  have hC : Tryd.prog.cellsOf 25 = 7 := by kernel_rfl
  rcases DataW.trod_slice hu h with ⟨hv, -⟩ | ⟨a, len, cap, elems, rest, n', hn', hv, rfl, hb, hle, hm, he, hE, -, -⟩
  · cases hv
    exact ⟨none, 0, [], rfl, by rw [ItemsAt]; trivial, by simp, by rw [VWFs]; trivial⟩
  · cases hv
    rw [hC] at hE
    obtain ⟨kids, hk, hkt⟩ := jchoose len (fun i (y : ValD) => (∃ cs, w.cells? base (a.add (i * 7)) 7 = some cs ∧ ValIs w y (.agg cs.toArray)) ∧ y.WF) (fun i hi => by
      have h1 := hE i hi
      rw [List.getElem?_eq_getElem (by omega)] at h1
      obtain ⟨cs, hc, ht⟩ := Option.bind_eq_some_iff.1 h1
      obtain ⟨y, hy, hw⟩ := open_val n' _ _ ht (Sj.elem hu hz (List.getElem?_eq_getElem (by omega)))
      exact ⟨y, ⟨cs, hc, hy⟩, hw⟩)
    refine ⟨some a, cap, kids, by rw [hk], items_at (base := base) kids 0 fun i hi => ?_, ?_, vwfs_all kids fun i hi => (hkt i hi).2⟩
    · rw [Nat.zero_add]
      exact (hkt i hi).1
    · rw [hk, ← he]
      exact Sj.len hu (by decide +kernel) hz
end
end Go.Proofs.YtdooadalkbghgaaDoor
end
