/- Facts for the law of layer 6 on two documents: what a row of tokens is kept by; where its attributes stand. -/
import Derived.Test.YtpphpnkijokffaaGreatDoorTokLa
import Derived.Test.YtpphpnkijokffaaGreatDoorTokR
import Derived.Laws.OwnMore
import Derived.Laws.Rows
namespace Go.Proofs.YtpphpnkijokffaaGreatDoor
open Go.RowKit

/-- All blocks from B on that a world has stand in another one. -/
def KeepsFrom (B : Nat) (w w' : World) : Prop := ∀ b, B ≤ b → b < w.heap.size → w'.heap[b]? = w.heap[b]?
theorem KeepsFrom.refl (B : Nat) (w : World) : KeepsFrom B w w := fun _ _ _ => rfl
theorem KeepsFrom.more {B B' : Nat} {w w' : World} (h : KeepsFrom B w w') (hB : B ≤ B') : KeepsFrom B' w w' := fun b h1 h2 => h b (by omega) h2
theorem KeepsFrom.below {B : Nat} {w w1 w2 : World} (h : KeepsFrom B w w1) (hb : Below w1.heap.size w1 w2) (hz : w.heap.size ≤ w1.heap.size) : KeepsFrom B w w2 := fun b h1 h2 => (hb.block b (by omega)).trans (h b h1 h2)
theorem KeepsFrom.alloc {B : Nat} {w w1 : World} (h : KeepsFrom B w w1) (hz : w.heap.size ≤ w1.heap.size) (o : Obj) : KeepsFrom B w (w1.alloc o) := h.below ((Below.refl _ _).alloc (Nat.le_refl _) o) hz
theorem KeepsFrom.setCell {B : Nat} {w w1 : World} (h : KeepsFrom B w w1) {p : Addr} (hp : p.block < B ∨ w.heap.size ≤ p.block) (v : Value) : KeepsFrom B w (w1.setCell p v) := fun b h1 h2 => by
  rw [← h b h1 h2]
  exact Below.heap_setCell _ _ _ _ (by omega)
theorem KeepsFrom.grown {B : Nat} {w w1 w2 : World} {row : Option Nat} (h : KeepsFrom B w w1) (hg : w1.grownBy w2 row) (hz : w.heap.size ≤ w1.heap.size) (hr : ∀ g, row = some g → g < B ∨ w.heap.size ≤ g) : KeepsFrom B w w2 := fun b h1 h2 =>
  (hg.block b (by omega) (fun e => by have := hr b e.symm; omega)).trans (h b h1 h2)
theorem row_keeps {B : Nat} {e : TypeId} {k : Nat} {v : Value} {n : Nat} {xs : List Value} {w w' : World} (h : w.ownsRow B e k v n xs) (hk : KeepsFrom B w w') : w'.ownsRow B e k v n xs := by
  refine ⟨h.1, ?_⟩
  rcases h.2 with h0 | ⟨g, cap, cur, hv, hB, hg, rest⟩
  · exact .inl h0
  · exact .inr ⟨g, cap, cur, hv, hB, (hk g hB (Array.getElem?_eq_some_iff.1 hg).1).trans hg, rest⟩
theorem TokRow.keeps {w w' : World} {B : Nat} {v : Value} {ps : List (TokD × Value)} (h : TokRow w B v ps) (hk : KeepsFrom B w w') : TokRow w' B v ps := ⟨row_keeps h.1 hk, fun p hp => row_keeps (h.2 p hp) hk⟩
/-- One token of a row. -/
theorem tok_at {w : World} {B : Nat} {A : Option Addr} {n c : Nat} {ps : List (TokD × Value)} (h : TokRow w B (.slice A n c) ps) (i : Nat) (hi : i < ps.length) : ∃ g : Nat, A = some ⟨g, 0, none⟩ ∧ (∀ k v, k < 6 → (tokCells ps[i])[k]? = some v → w.cell? ⟨g, i * 6 + k, none⟩ = some v) ∧ w.ownsRow B 37 4 ps[i].2 ps[i].1.al.length (attrsCells ps[i].1.al) := by
  obtain ⟨h1, h2⟩ := h
  obtain ⟨A', c', he⟩ := own_form h1
  injection he with e1 e2 e3
  have hc := fun g => h1.cells (g := g)
  rcases h1.2 with ⟨h0, h00⟩ | ⟨g, cap, cur, hv, _⟩
  · omega
  · injection hv with hA
    subst hA
    refine ⟨g, rfl, fun k v hk hv => ?_, h2 ps[i] (List.getElem_mem _)⟩
    have := hc g rfl (i * 6 + k) v (by rw [toksCells_at ps i hi k hk]; exact hv)
    rw [addr_add] at this
    exact this

/-! ### where the attributes stand -/
def AtsIn (n : Nat) (l : List AttrD) : Prop := ∀ x ∈ l, 0 ≤ x.at' ∧ x.at' ≤ (n : Int)
theorem startGo_ats (s : ByteArray) (i : Nat) (N : List UInt8) : ∀ f a acc, s.size - a < f → a ≤ s.size → AtsIn s.size acc → AtsIn s.size (startGo s i N f a acc).al
  | 0, a, acc, hf, _, _ => absurd hf (by omega)
  | f + 1, a, acc, hf, ha, hl => by
    rw [startGo]
    have hk := spP_le s.data.toList a (by rw [bsl]; exact ha)
    rw [bsl] at hk
    generalize spP s.data.toList a = m at *
    split
    · exact hl
    · split
      · exact hl
      · split
        · exact hl
        · split
          · exact hl
          · split
            · exact hl
            · rename_i h5
              obtain ⟨z, hz, hz1, hz2⟩ := attrP_ok s i m (by omega) (by simpa using h5)
              split
              · exact hl
              · rw [hz, Int.toNat_natCast]
                refine startGo_ats s i N f z _ (by omega) hz2 (fun x hx => ?_)
                rcases List.mem_append.1 hx with h | h
                · exact hl x h
                · rw [List.mem_singleton.1 h]
                  simp only [attrOf]
                  omega
theorem consP_ats (s : ByteArray) (i : Nat) : AtsIn s.size (consP s i).1.al := by
  have hn : AtsIn s.size [] := fun x hx => by cases hx
  unfold consP
  split
  · exact hn
  · split
    · exact hn
    · split
      · unfold cdataP
        split <;> exact hn
      · split
        · exact hn
        · split
          · exact hn
          · split
            · exact hn
            · split
              · rename_i h7
                have hl := hasP_len h7 (by decide)
                rw [bsl] at hl
                simp only
                unfold startP
                have hb := nmP_le s (i + 1) hl
                split
                · exact hn
                · exact startGo_ats s i _ _ _ _ (by omega) hb.2 hn
              · exact hn
theorem tokGo_ats (s : ByteArray) : ∀ f a acc, (∀ t ∈ acc, AtsIn s.size t.al) → ∀ t ∈ (tokGo s f a acc).1, AtsIn s.size t.al
  | 0, _, acc, h => h
  | f + 1, a, acc, h => by
    rw [tokGo]
    split
    · split
      · intro t ht; cases ht
      · refine tokGo_ats s f _ _ ?_
        split
        · intro t ht
          rcases List.mem_append.1 ht with h1 | h1
          · exact h t h1
          · rw [List.mem_singleton.1 h1]; exact consP_ats s a
        · exact h
    · exact h
theorem toksP_ats (s : ByteArray) : ∀ t ∈ (toksP s).1, AtsIn s.size t.al := by
  unfold toksP
  split
  · intro t ht; cases ht
  · exact tokGo_ats s _ _ _ (fun t ht => by cases ht)
theorem Rises_mem : ∀ (l : List TokD) (lo : Int) (k : Nat), Rises lo k l → ∀ t ∈ l, lo < t.at' ∧ t.at' < (k : Int)
  | [], _, _, _, t, h => by cases h
  | x :: l, lo, k, h, t, ht => by
    obtain ⟨h1, h2, h3⟩ := h
    rcases List.mem_cons.1 ht with rfl | hm
    · exact ⟨h1, h2⟩
    · have := Rises_mem l _ k h3 t hm
      exact ⟨by omega, this.2⟩
theorem toksP_place (s : ByteArray) : ∀ t ∈ (toksP s).1, 0 ≤ t.at' ∧ t.at' ≤ (s.size : Int) := fun t ht => by
  have := Rises_mem _ _ _ (toksP_ok s).1 t ht
  omega

/-! ### attributes that are moved one after another -/
def ShN (d : Nat) (al : List AttrD) (j : Nat) : List AttrD := (al.take j).map (shA d) ++ al.drop j
theorem ShN_zero (d : Nat) (al : List AttrD) : ShN d al 0 = al := rfl
theorem ShN_end (d : Nat) (al : List AttrD) : ShN d al al.length = al.map (shA d) := by unfold ShN; simp
theorem ShN_step (d : Nat) (al : List AttrD) (j : Nat) (h : j < al.length) : (attrsCells (ShN d al j))[j * 4 + 3]? = some (.int .i64 al[j].at') ∧ (attrsCells (ShN d al j)).set (j * 4 + 3) (.int .i64 (al[j].at' + (d : Int))) = attrsCells (ShN d al (j + 1)) := by
  have hl : (attrsCells ((al.take j).map (shA d))).length = j * 4 := by rw [attrsCells_len, List.length_map, List.length_take, Nat.min_eq_left (by omega)]
  have e1 : attrsCells (ShN d al j) = attrsCells ((al.take j).map (shA d)) ++ (attrCells al[j] ++ attrsCells (al.drop (j + 1))) := by
    unfold ShN
    rw [attrsCells_app, List.drop_eq_getElem_cons h]
    rfl
  have e2 : attrsCells (ShN d al (j + 1)) = attrsCells ((al.take j).map (shA d)) ++ (attrCells (shA d al[j]) ++ attrsCells (al.drop (j + 1))) := by
    unfold ShN
    rw [List.take_add_one, List.getElem?_eq_getElem h, List.map_append, attrsCells_app, attrsCells_app, List.append_assoc]
    rfl
  rw [e1, e2]
  constructor
  · rw [List.getElem?_append_right (by omega), hl, show j * 4 + 3 - j * 4 = 3 by omega]
    rfl
  · rw [List.set_append_right _ _ (by omega), hl, show j * 4 + 3 - j * 4 = 3 by omega]
    unfold attrCells shA
    rw [Int.add_comm al[j].at' (d : Int)]
    rfl
theorem attrs_one (l : List AttrD) : ∀ u ∈ attrsCells l, u.oneCell' = true := by
  intro u hu
  obtain ⟨x, _, hx⟩ := List.mem_flatMap.1 hu
  exact attr_one x u hx
/-- The block of a token of the law's own. -/
def UAt (w : World) (U : Nat) (kd : Int) (nm : List UInt8) (v : Value) (em : Bool) (tx : List UInt8) (at' : Int) : Prop := w.heap[U]? = some (.cells #[.int .i64 kd, .string (ofBytes nm), v, .bool em, .string (ofBytes tx), .int .i64 at'] 35 (0, 0))
theorem UAt.cells {w : World} {U : Nat} {kd : Int} {nm : List UInt8} {v : Value} {em : Bool} {tx : List UInt8} {at' : Int} (h : UAt w U kd nm v em tx at') : (w.cell? ⟨U, 0, none⟩ = some (.int .i64 kd) ∧ w.cell? ⟨U, 1, none⟩ = some (.string (ofBytes nm)) ∧ w.cell? ⟨U, 2, none⟩ = some v ∧ w.cell? ⟨U, 3, none⟩ = some (.bool em) ∧ w.cell? ⟨U, 4, none⟩ = some (.string (ofBytes tx)) ∧ w.cell? ⟨U, 5, none⟩ = some (.int .i64 at')) ∧ ∀ o, w.frozen? ⟨U, o, none⟩ = false := by
  refine ⟨⟨?_, ?_, ?_, ?_, ?_, ?_⟩, fun o => frozen_of_row w U o _ _ h⟩ <;> (rw [cell_of_row w U _ _ _ _ h]; rfl)
theorem UAt.below {B : Nat} {w w' : World} {U : Nat} {kd : Int} {nm : List UInt8} {v : Value} {em : Bool} {tx : List UInt8} {at' : Int} (h : UAt w U kd nm v em tx at') (hb : Below B w w') (hU : U < B) : UAt w' U kd nm v em tx at' := (hb.block U hU).trans h
theorem UAt.grown {w w' : World} {row : Option Nat} {U : Nat} {kd : Int} {nm : List UInt8} {v : Value} {em : Bool} {tx : List UInt8} {at' : Int} (h : UAt w U kd nm v em tx at') (hg : w.grownBy w' row) (hU : row ≠ some U) : UAt w' U kd nm v em tx at' :=
  (hg.block U (Array.getElem?_eq_some_iff.1 h).1 (fun e => hU e.symm)).trans h
theorem UAt.set2 {w : World} {U : Nat} {kd : Int} {nm : List UInt8} {v : Value} {em : Bool} {tx : List UInt8} {at' : Int} (h : UAt w U kd nm v em tx at') (u : Value) : UAt (w.setCell ⟨U, 2, none⟩ u) U kd nm u em tx at' := by
  unfold UAt at *
  rw [heap_setCell_same w U 2 _ _ _ h]
  rfl
theorem UAt.new (w : World) (kd : Int) (nm : List UInt8) (v : Value) (em : Bool) (tx : List UInt8) (at' : Int) : UAt (w.alloc (.cells #[.int .i64 kd, .string (ofBytes nm), v, .bool em, .string (ofBytes tx), .int .i64 at'] 35)) w.heap.size kd nm v em tx at' := heap_alloc_new w _
end Go.Proofs.YtpphpnkijokffaaGreatDoor
