/- Packed from the texts JzO MeL MeY. -/
import Derived.Test.YtbfalppeifkjdaaGreatDoorXMeI
import Derived.Test.YtbfalppeifkjdaaGreatDoorXk7
import Derived.Test.YtbfalppeifkjdaaGreatDoorXkJ
import Derived.Test.YtbfalppeifkjdaaGreatDoorXl1
import Derived.Test.YtbfalppeifkjdaaGreatDoorXl2
import Derived.Test.YtbfalppeifkjdaaGreatDoorXl3
import Derived.Test.YtbfalppeifkjdaaGreatDoorXl4
import Derived.Carry
import Derived.Deep.Fields
import Derived.ProofKit
section
namespace Go.Proofs.YtbfalppeifkjdaaGreatDoor
open Go.RowKit Go.Deep
section
variable {H : Type} {enc : TypeId × Value → H} {w : World} {base : Nat} {spare : Nat → Bool} {held : Bool}
def Sj (P : Program) (t : TypeId) (d : DataW H) : Prop := ∀ z ∈ d.weights P t, z ≤ reachBytes
theorem Sj.part {P : Program} {t : TypeId} {fs : Array Field} {xs : List (DataW H × List MemPlace)} (he : P.underlying t = some (.struct fs)) (h : Sj P t (.agg (xs.map (·.1)))) {j : Nat} {f : Field} {y : DataW H × List MemPlace} (hf : fs[j]? = some f) (hy : xs[j]? = some y) : Sj P f.type y.1 := by
  intro z hz
  apply h z
  rw [DataW.weights, he]
  exact DataW.weights_mem_each (j := j) (t := f.type) (by simp [hf]) (by simp [hy]) z hz
theorem jweights_all {P : Program} {e : TypeId} : ∀ (ds : List (DataW H)) (i : Nat) (d : DataW H), ds[i]? = some d → ∀ z ∈ d.weights P e, z ∈ DataW.weightsAll P e ds
  | [], i, d, h, _, _ => by simp at h
  | x :: r, 0, d, h, z, hz => by
    obtain rfl : x = d := by simpa using h
    rw [DataW.weightsAll]
    exact List.mem_append_left _ hz
  | x :: r, i + 1, d, h, z, hz => by
    rw [DataW.weightsAll]
    exact List.mem_append_right _ (jweights_all r i d (by simpa using h) z hz)
theorem Sj.elem {P : Program} {t e : TypeId} {xs ys : List (DataW H × List MemPlace)} (he : P.underlying t = some (.slice e)) (h : Sj P t (.slice (xs.map (·.1)) (ys.map (·.1)))) {j : Nat} {y : DataW H × List MemPlace} (hy : xs[j]? = some y) : Sj P e y.1 := by
  intro z hz
  apply h z
  rw [DataW.weights, he]
  exact List.mem_cons_of_mem _ (List.mem_append_left _ (jweights_all _ j _ (by simp [hy]) z hz))
theorem Sj.len {P : Program} {t e : TypeId} {xs ys : List (DataW H × List MemPlace)} (he : P.underlying t = some (.slice e)) (hb : 0 < P.bytesOf e) (h : Sj P t (.slice (xs.map (·.1)) (ys.map (·.1)))) : xs.length ≤ 140737488351232 := by
  have := h ((xs.length + ys.length) * P.bytesOf e) (by rw [DataW.weights, he]; simp)
  have h2 : (xs.length + ys.length) * 1 ≤ (xs.length + ys.length) * P.bytesOf e := Nat.mul_le_mul_left _ hb
  have h3 : reachBytes = 140737488351232 := rfl
  omega
theorem jopen_cells {P : Program} {t : TypeId} {fs : Array Field} {fuel : Nat} {cs : List Value} {x : DataW H × List MemPlace} (he : P.underlying t = some (.struct fs)) (h : DataW.trod enc P w base spare held fuel t cs = some x) :
    ∃ n, fuel = n + 1 ∧ cs.length = P.cellsOf t ∧ ∀ (j : Nat) (f : Field), fs[j]? = some f → ∃ y, DataW.trod enc P w base spare held n f.type ((cs.drop f.offset).take (P.cellsOf f.type)) = some y ∧ (Sj P t x.1 → Sj P f.type y.1) := by
  obtain ⟨ys, n, hn, rfl, hlen, hyl, hf⟩ := DataW.trod_struct he h
  refine ⟨n, hn, hlen, fun j f hj => ?_⟩
  have hjl : j < fs.size := (Array.getElem?_eq_some_iff.1 hj).1
  have hy : ys[j]? = some (ys[j]'(by omega)) := List.getElem?_eq_getElem (by omega)
  exact ⟨_, (hf j f hj).trans hy, fun hs => Sj.part he hs hj hy⟩
theorem jchoose {α : Type} (len : Nat) (p : Nat → α → Prop) (h : ∀ i, i < len → ∃ a, p i a) : ∃ l : List α, l.length = len ∧ ∀ i (hi : i < l.length), p i l[i] := by
  induction len with
  | zero => exact ⟨[], rfl, fun i hi => absurd hi (Nat.not_lt_zero _)⟩
  | succ k ih =>
    obtain ⟨l, hl, hp⟩ := ih fun i hi => h i (by omega)
    obtain ⟨a, ha⟩ := h k (by omega)
    refine ⟨l ++ [a], by rw [List.length_append, hl]; rfl, fun i hi => ?_⟩
    rw [List.length_append, hl] at hi
    by_cases h' : i < l.length
    · rw [List.getElem_append_left h']
      exact hp i h'
    · have : i = k := by simp at hi; omega
      subst this
      rw [List.getElem_append_right (by omega)]
      simpa [hl] using ha
end
end Go.Proofs.YtbfalppeifkjdaaGreatDoor
end
section
namespace Go.Proofs.YtbfalppeifkjdaaGreatDoor
open Go.RowKit
structure EWf (e : EntD) : Prop where
  id : e.id.size ≤ 140737488351232
  title : e.title.size ≤ 140737488351232
  link : e.link.size ≤ 140737488351232
  content : e.content.size ≤ 140737488351232
  u0 : -9223372036854775808 ≤ e.upd
  u1 : e.upd ≤ 9223372036854775807
end Go.Proofs.YtbfalppeifkjdaaGreatDoor
end
section
namespace Go.Proofs.YtbfalppeifkjdaaGreatDoor
open Go.RowKit Go.Deep
set_option maxRecDepth 100000 in
theorem mefields : ∃ f0 f1 f2 f3 f4 : Field, Tryz.prog.underlying 23 = some (.struct #[f0, f1, f2, f3, f4]) ∧ [f0.type, f1.type, f2.type, f3.type, f4.type] = [9, 9, 9, 9, 2] ∧ [f0.offset, f1.offset, f2.offset, f3.offset, f4.offset] = [0, 1, 2, 3, 4] ∧ Tryz.prog.cellsOf 23 = 5 := by
  obtain ⟨fs, hS, hF, ho, hC⟩ : ∃ fs : Array Field, Tryz.prog.underlying 23 = some (.struct fs) ∧ fs.toList.map Field.type = [9, 9, 9, 9, 2] ∧ fs.toList.map Field.offset = [0, 1, 2, 3, 4] ∧ Tryz.prog.cellsOf 23 = 5 := ⟨Tryz.prog.fieldsOf 23, by kernel_rfl, by kernel_rfl, by kernel_rfl, by kernel_rfl⟩
  obtain ⟨l⟩ := fs
  match l, hF with
  | [f0, f1, f2, f3, f4], hF => exact ⟨f0, f1, f2, f3, f4, hS, hF, ho, hC⟩
set_option maxRecDepth 100000 in
theorem mffields : ∃ f0 f1 f2 f3 f4 f5 : Field, Tryz.prog.underlying 35 = some (.struct #[f0, f1, f2, f3, f4, f5]) ∧ [f0.type, f1.type, f2.type, f3.type, f4.type, f5.type] = [32, 9, 9, 9, 2, 33] ∧ [f0.offset, f1.offset, f2.offset, f3.offset, f4.offset, f5.offset] = [0, 1, 2, 3, 4, 5] ∧ Tryz.prog.cellsOf 35 = 6 := by
  obtain ⟨fs, hS, hF, ho, hC⟩ : ∃ fs : Array Field, Tryz.prog.underlying 35 = some (.struct fs) ∧ fs.toList.map Field.type = [32, 9, 9, 9, 2, 33] ∧ fs.toList.map Field.offset = [0, 1, 2, 3, 4, 5] ∧ Tryz.prog.cellsOf 35 = 6 := ⟨Tryz.prog.fieldsOf 35, by kernel_rfl, by kernel_rfl, by kernel_rfl, by kernel_rfl⟩
  obtain ⟨l⟩ := fs
  match l, hF with
  | [f0, f1, f2, f3, f4, f5], hF => exact ⟨f0, f1, f2, f3, f4, f5, hS, hF, ho, hC⟩
theorem meone : Tryz.prog.cellsOf 9 = 1 ∧ Tryz.prog.cellsOf 2 = 1 ∧ Tryz.prog.cellsOf 32 = 1 ∧ Tryz.prog.cellsOf 33 = 1 ∧ Tryz.prog.cellsOf 37 = 1 := ⟨by kernel_rfl, by kernel_rfl, by kernel_rfl, by kernel_rfl, by kernel_rfl⟩
theorem melist5 {α : Type} {l : List α} (h : l.length = 5) : ∃ a b c d e, l = [a, b, c, d, e] := by
  match l, h with
  | [a, b, c, d, e], _ => exact ⟨a, b, c, d, e, rfl⟩
theorem melist6 {α : Type} {l : List α} (h : l.length = 6) : ∃ a b c d e f, l = [a, b, c, d, e, f] := by
  match l, h with
  | [a, b, c, d, e, f], _ => exact ⟨a, b, c, d, e, f, rfl⟩
section
variable {H : Type} {enc : TypeId × Value → H} {w : World} {base : Nat} {spare : Nat → Bool} {held : Bool}
theorem mopen_str {fuel : Nat} {cs : List Value} {x : DataW H × List MemPlace} (h : DataW.trod enc Tryz.prog w base spare held fuel 9 cs = some x) (hz : Sj Tryz.prog 9 x.1) : ∃ s : ByteArray, cs = [.string s] ∧ s.size ≤ 140737488351232 := by
  obtain ⟨s, h1, rfl, -⟩ := DataW.trod_string Tryz.underlying9 h
  refine ⟨s, h1, ?_⟩
  have := hz s.data.toList.length (by simp [DataW.weights])
  have h2 : s.data.toList.length = s.size := by simp
  have h3 : reachBytes = 140737488351232 := rfl
  omega
set_option maxRecDepth 100000 in
theorem mopen_ent {fuel : Nat} {cs : List Value} {x : DataW H × List MemPlace} (h : DataW.trod enc Tryz.prog w base spare held fuel 23 cs = some x) (hz : Sj Tryz.prog 23 x.1) : ∃ e : EntD, cs = [.string e.id, .string e.title, .string e.link, .string e.content, .int .i64 e.upd] ∧ EWf e := by
  obtain ⟨f0, f1, f2, f3, f4, hS, hT, hO, hC⟩ := mefields
  simp only [List.cons.injEq, and_true] at hT hO
  obtain ⟨t0, t1, t2, t3, t4⟩ := hT
  obtain ⟨o0, o1, o2, o3, o4⟩ := hO
  obtain ⟨us, ui, -, -, -⟩ := meone
  obtain ⟨n, hn, hl, hf⟩ := jopen_cells hS h
  rw [hC] at hl
  obtain ⟨c0, c1, c2, c3, c4, rfl⟩ := melist5 hl
  obtain ⟨y0, g0, z0⟩ := hf 0 f0 rfl
  obtain ⟨y1, g1, z1⟩ := hf 1 f1 rfl
  obtain ⟨y2, g2, z2⟩ := hf 2 f2 rfl
  obtain ⟨y3, g3, z3⟩ := hf 3 f3 rfl
  obtain ⟨y4, g4, -⟩ := hf 4 f4 rfl
  rw [t0, o0, us] at g0; rw [t1, o1, us] at g1; rw [t2, o2, us] at g2; rw [t3, o3, us] at g3; rw [t4, o4, ui] at g4
  rw [t0] at z0; rw [t1] at z1; rw [t2] at z2; rw [t3] at z3
  obtain ⟨s0, h0, b0⟩ := mopen_str g0 (z0 hz)
  obtain ⟨s1, h1, b1⟩ := mopen_str g1 (z1 hz)
  obtain ⟨s2, h2, b2⟩ := mopen_str g2 (z2 hz)
  obtain ⟨s3, h3, b3⟩ := mopen_str g3 (z3 hz)
  obtain ⟨k4, h4, -, hk4⟩ := DataW.trod_int Tryz.underlying2 g4
  cases h0; cases h1; cases h2; cases h3; cases h4
  have hr : -9223372036854775808 ≤ k4 ∧ k4 ≤ 9223372036854775807 := by simpa [Lit.wf, IntKind.min, IntKind.max, IntKind.signed, IntKind.bits] using hk4
  exact ⟨⟨s0, s1, s2, s3, k4⟩, rfl, ⟨b0, b1, b2, b3, hr.1, hr.2⟩⟩
set_option maxRecDepth 100000 in
theorem mopen_strs {fuel : Nat} {v : Value} {x : DataW H × List MemPlace} (h : DataW.trod enc Tryz.prog w base spare held fuel 32 [v] = some x) (hz : Sj Tryz.prog 32 x.1) : ∃ (p : Option Addr) (c : Nat) (l : List ByteArray), v = .slice p l.length c ∧ NamAt w p l ∧ l.length ≤ 140737488351232 ∧ ∀ s ∈ l, s.size ≤ 140737488351232 := by
  have hu : Tryz.prog.underlying 32 = some (.slice 9) := by kernel_rfl
  rcases DataW.trod_slice hu h with ⟨hv, -⟩ | ⟨a, len, cap, elems, rest, n', hn', hv, rfl, hb, hle, hm, he, hE, -, -⟩
  · cases hv
    exact ⟨none, 0, [], rfl, fun i hi => absurd hi (Nat.not_lt_zero _), by simp, fun s hs => by cases hs⟩
  · cases hv
    rw [meone.1] at hE
    obtain ⟨kids, hk, hkt⟩ := jchoose len (fun i (y : ByteArray) => w.cell? (a.add (i * 1)) = some (.string y) ∧ y.size ≤ 140737488351232) (fun i hi => by
      have h1 := hE i hi
      rw [List.getElem?_eq_getElem (by omega)] at h1
      obtain ⟨cs, hc, ht⟩ := Option.bind_eq_some_iff.1 h1
      obtain ⟨s, rfl, hs⟩ := mopen_str ht (Sj.elem hu hz (List.getElem?_eq_getElem (by omega)))
      obtain ⟨-, -, hg⟩ := World.cells?_some hc
      exact ⟨s, hg 0 (by omega), hs⟩)
    refine ⟨some a, cap, kids, by rw [hk], fun i hi => ⟨a, rfl, ?_⟩, ?_, fun s hs => ?_⟩
    · have := (hkt i hi).1
      rwa [Nat.mul_one] at this
    · rw [hk, ← he]
      exact Sj.len hu (by decide +kernel) hz
    · obtain ⟨i, hi, rfl⟩ := List.mem_iff_getElem.1 hs
      exact (hkt i hi).2
def FOpen (f : FeedD) : Prop := FWf f ∧ -9223372036854775808 ≤ f.upd ∧ f.upd ≤ 9223372036854775807
end
end Go.Proofs.YtbfalppeifkjdaaGreatDoor
end
