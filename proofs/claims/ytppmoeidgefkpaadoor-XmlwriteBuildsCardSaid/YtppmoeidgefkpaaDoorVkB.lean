/- Packed from the texts TokJ TokM. -/
import Derived.Test.YtppmoeidgefkpaaDoorVChk
import Derived.Test.YtppmoeidgefkpaaDoorVEscC
import Derived.Test.YtppmoeidgefkpaaDoorVTextM
import Derived.Test.YtppmoeidgefkpaaDoorVTokE
import Derived.Lib.SmallJoins
import Derived.BigRegion
import Derived.Lib.OwnKind
import Derived.Lib.Bytes
import Derived.Lib.IndexMore
section
namespace Go.Proofs.YtppmoeidgefkpaaDoor
open Go.RowKit
def attrCells (x : AttrD) : List Value := [.string x.sp, .string x.nm, .string x.va, .int .i64 x.at']
def attrsCells (l : List AttrD) : List Value := l.flatMap attrCells
theorem attrsCells_len (l : List AttrD) : (attrsCells l).length = l.length * 4 := by
  induction l with
  | nil => rfl
  | cons x r ih => rw [attrsCells, List.flatMap_cons, List.length_append, List.length_cons]; rw [attrsCells] at ih; rw [ih]; show 4 + _ = _; omega
theorem attrsCells_app (l m : List AttrD) : attrsCells (l ++ m) = attrsCells l ++ attrsCells m := by unfold attrsCells; rw [List.flatMap_append]
theorem attrsCells_at : ∀ (l : List AttrD) (i : Nat) (h : i < l.length) (k : Nat), k < 4 → (attrsCells l)[i * 4 + k]? = (attrCells l[i])[k]?
  | [], i, h, _, _ => absurd h (Nat.not_lt_zero _)
  | x :: r, 0, _, k, hk => by
    show (attrCells x ++ attrsCells r)[0 * 4 + k]? = (attrCells x)[k]?
    rw [List.getElem?_append_left (by show 0 * 4 + k < 4; omega)]
    simp
  | x :: r, i + 1, h, k, hk => by
    show (attrCells x ++ attrsCells r)[(i + 1) * 4 + k]? = _
    rw [List.getElem?_append_right (by show 4 ≤ (i + 1) * 4 + k; omega)]
    show (attrsCells r)[(i + 1) * 4 + k - 4]? = _
    rw [show (i + 1) * 4 + k - 4 = i * 4 + k by omega, attrsCells_at r i (by simpa using h) k hk]
    rfl
theorem addr_add2 (g j k : Nat) : ((⟨g, 0, none⟩ : Addr).add j).add k = ⟨g, j + k, none⟩ := by rw [addr_add]; unfold Addr.add; split <;> simp_all
theorem attrs_of_row {w : World} {base : Nat} {t : TypeId} {A : Option Addr} {n c : Nat} {l : List AttrD} (h : w.ownsRow base t 4 (.slice A n c) n (attrsCells l)) : AttrsAt w A l := by
  intro i hi
  have hc := fun g => h.cells (g := g)
  rcases h.2 with ⟨h0, h1⟩ | ⟨g, cap, cur, hv, _⟩
  · have := h.1
    rw [attrsCells_len, h1] at this
    omega
  · injection hv with hA
    subst hA
    have hk : ∀ k v, k < 4 → (attrCells l[i])[k]? = some v → w.cell? (((⟨g, 0, none⟩ : Addr).add (i * 4)).add k) = some v := by
      intro k v hk hv
      rw [addr_add2, ← addr_add]
      exact hc g rfl (i * 4 + k) v (by rw [attrsCells_at l i hi k hk]; exact hv)
    refine ⟨_, rfl, ?_, hk 1 _ (by omega) rfl, hk 2 _ (by omega) rfl, hk 3 _ (by omega) rfl⟩
    have := hk 0 _ (by omega) rfl
    rwa [addr_add2, Nat.add_zero, ← addr_add] at this
theorem row_below {B : Nat} {e : TypeId} {k : Nat} {v : Value} {n : Nat} {xs : List Value} {w w' : World} (h : w.ownsRow B e k v n xs) (hb : Below w.heap.size w w') : w'.ownsRow B e k v n xs := by
  refine ⟨h.1, ?_⟩
  rcases h.2 with h0 | ⟨g, cap, cur, hv, hB, hg, rest⟩
  · exact .inl h0
  · have hlt : g < w.heap.size := (Array.getElem?_eq_some_iff.1 hg).1
    exact .inr ⟨g, cap, cur, hv, hB, (hb.block g hlt).trans hg, rest⟩
def ResAt (w : World) (b : Nat) : Prop := (w.cell? ⟨b, 0, none⟩ = some (.int .i64 0) ∧ w.cell? ⟨b, 1, none⟩ = some (.string ⟨#[]⟩) ∧ w.cell? ⟨b, 2, none⟩ = some (.slice none 0 0) ∧ w.cell? ⟨b, 3, none⟩ = some (.bool false) ∧ w.cell? ⟨b, 4, none⟩ = some (.string ⟨#[]⟩) ∧ w.cell? ⟨b, 5, none⟩ = some (.int .i64 0)) ∧
  w.frozen? ⟨b, 0, none⟩ = false ∧ w.frozen? ⟨b, 1, none⟩ = false ∧ w.frozen? ⟨b, 2, none⟩ = false ∧ w.frozen? ⟨b, 3, none⟩ = false ∧ w.frozen? ⟨b, 4, none⟩ = false ∧ w.frozen? ⟨b, 5, none⟩ = false
theorem ResAt.below {B : Nat} {w w' : World} {b : Nat} (h : ResAt w b) (hb : Below B w w') (hlt : b < B) : ResAt w' b := by
  obtain ⟨⟨r0, r1, r2, r3, r4, r5⟩, q0, q1, q2, q3, q4, q5⟩ := h
  have c := fun o => hb.cell (p := ⟨b, o, none⟩) hlt
  have f := fun o => hb.frozen (p := ⟨b, o, none⟩) hlt
  exact ⟨⟨(c 0).trans r0, (c 1).trans r1, (c 2).trans r2, (c 3).trans r3, (c 4).trans r4, (c 5).trans r5⟩, (f 0).trans q0, (f 1).trans q1, (f 2).trans q2, (f 3).trans q3, (f 4).trans q4, (f 5).trans q5⟩
theorem ResAt.set {w : World} {b : Nat} (h : ResAt w b) {p : Addr} (hp : p.block ≠ b) (u : Value) : ResAt (w.setCell p u) b := by
  obtain ⟨⟨r0, r1, r2, r3, r4, r5⟩, q0, q1, q2, q3, q4, q5⟩ := h
  have c : ∀ o, (w.setCell p u).cell? ⟨b, o, none⟩ = w.cell? ⟨b, o, none⟩ := fun o => World.cell?_setCell_other _ _ _ _ (fun e => hp (by rw [e]))
  have f : ∀ o, (w.setCell p u).frozen? ⟨b, o, none⟩ = w.frozen? ⟨b, o, none⟩ := fun o => World.frozen?_setCell _ _ _ _
  exact ⟨⟨(c 0).trans r0, (c 1).trans r1, (c 2).trans r2, (c 3).trans r3, (c 4).trans r4, (c 5).trans r5⟩, (f 0).trans q0, (f 1).trans q1, (f 2).trans q2, (f 3).trans q3, (f 4).trans q4, (f 5).trans q5⟩
def TagAt (w : World) (b i : Nat) (N : List UInt8) (v : Value) : Prop := (w.cell? ⟨b, 0, none⟩ = some (.int .i64 1) ∧ w.cell? ⟨b, 1, none⟩ = some (.string (ofBytes N)) ∧ w.cell? ⟨b, 2, none⟩ = some v ∧ w.cell? ⟨b, 3, none⟩ = some (.bool false) ∧ w.cell? ⟨b, 4, none⟩ = some (.string ⟨#[]⟩) ∧ w.cell? ⟨b, 5, none⟩ = some (.int .i64 (i : Int))) ∧
  w.frozen? ⟨b, 2, none⟩ = false ∧ w.frozen? ⟨b, 3, none⟩ = false
theorem TagAt.below {B : Nat} {w w' : World} {b i : Nat} {N : List UInt8} {v : Value} (h : TagAt w b i N v) (hb : Below B w w') (hlt : b < B) : TagAt w' b i N v := by
  obtain ⟨⟨r0, r1, r2, r3, r4, r5⟩, q2, q3⟩ := h
  have c := fun o => hb.cell (p := ⟨b, o, none⟩) hlt
  have f := fun o => hb.frozen (p := ⟨b, o, none⟩) hlt
  exact ⟨⟨(c 0).trans r0, (c 1).trans r1, (c 2).trans r2, (c 3).trans r3, (c 4).trans r4, (c 5).trans r5⟩, (f 2).trans q2, (f 3).trans q3⟩
theorem kinfo_attr : (Tryd.prog.info? 37).map (fun i => (i.zero, i.size, i.bytes)) = some (some (.agg #[.string ⟨#[]⟩, .string ⟨#[]⟩, .string ⟨#[]⟩, .int .i64 0]), 4, 56) := by kernel_rfl
theorem attr_one (x : AttrD) : ∀ u ∈ attrCells x, u.oneCell' = true := by
  intro u hu
  simp [attrCells] at hu
  rcases hu with rfl | rfl | rfl | rfl <;> rfl
structure TokD where
  kind : Int
  nm : List UInt8
  al : List AttrD
  em : Bool
  tx : List UInt8
  at' : Int
end Go.Proofs.YtppmoeidgefkpaaDoor
end
section
namespace Go.Proofs.YtppmoeidgefkpaaDoor
open Go.RowKit
theorem kblock_lt {w : World} {a : Addr} {v : Value} (hc : w.cell? a = some v) : a.block < w.heap.size := by
  rcases Nat.lt_or_ge a.block w.heap.size with h' | h'
  · exact h'
  · simp [World.cell?, Array.getElem?_eq_none h'] at hc
theorem AttrsAt.below {w w' : World} {p : Option Addr} {l : List AttrD} (h : AttrsAt w p l) (hb : Below w.heap.size w w') : AttrsAt w' p l := by
  intro i hi
  obtain ⟨a, ha, h0, h1, h2, h3⟩ := h i hi
  exact ⟨a, ha, (hb.cell (kblock_lt h0)).trans h0, (hb.cell (kblock_lt h1)).trans h1, (hb.cell (kblock_lt h2)).trans h2, (hb.cell (kblock_lt h3)).trans h3⟩
def TokensAt (w : World) (p : Option Addr) (l : List TokD) : Prop := ∀ i (h : i < l.length), ∃ a q c, p = some a ∧
  (w.cell? (a.add (i * 6)) = some (.int .i64 l[i].kind) ∧ w.cell? ((a.add (i * 6)).add 1) = some (.string (ofBytes l[i].nm)) ∧ w.cell? ((a.add (i * 6)).add 2) = some (.slice q l[i].al.length c) ∧ w.cell? ((a.add (i * 6)).add 3) = some (.bool l[i].em) ∧ w.cell? ((a.add (i * 6)).add 4) = some (.string (ofBytes l[i].tx)) ∧ w.cell? ((a.add (i * 6)).add 5) = some (.int .i64 l[i].at')) ∧ AttrsAt w q l[i].al
theorem TokensAt.below {w w' : World} {p : Option Addr} {l : List TokD} (h : TokensAt w p l) (hb : Below w.heap.size w w') : TokensAt w' p l := by
  intro i hi
  obtain ⟨a, q, c, ha, ⟨h0, h1, h2, h3, h4, h5⟩, h6⟩ := h i hi
  exact ⟨a, q, c, ha, ⟨(hb.cell (kblock_lt h0)).trans h0, (hb.cell (kblock_lt h1)).trans h1, (hb.cell (kblock_lt h2)).trans h2, (hb.cell (kblock_lt h3)).trans h3, (hb.cell (kblock_lt h4)).trans h4, (hb.cell (kblock_lt h5)).trans h5⟩, h6.below hb⟩
end Go.Proofs.YtppmoeidgefkpaaDoor
end
