/- The reference of layer 6: Tokens: what it returns; rows of tokens; the laws' same; the examples. -/
import Derived.Test.YtpphpnkijokffaaDoorTokJ
import Derived.Test.YtpphpnkijokffaaDoorChk
import Derived.Lib.OwnKind
namespace Go.Proofs.YtpphpnkijokffaaDoor
open Go.RowKit

/-! ### The reference of layer 6: Tokens: what it returns. -/
/-! ### a construct that is accepted ends behind its beginning -/
theorem contF_ok (l : List UInt8) (j : Nat) (v : Bool) : ∀ f i out, (contF l j v f i out).2.2 = 0 → (contF l j v f i out).2.1 = (j : Int)
  | 0, i, out, _ => rfl
  | f + 1, i, out, h => by
    rw [contF] at h ⊢
    split
    · rename_i h1
      rw [if_pos h1] at h
      split
      · rename_i h2
        rw [if_pos h2] at h
        split
        · rename_i h3
          rw [if_pos h3] at h
          exact contF_ok l j v f _ _ h
        · rename_i h3
          rw [if_neg h3] at h
          exact absurd h h3
      · rename_i h2
        rw [if_neg h2] at h
        exact contF_ok l j v f _ _ h
    · rfl
theorem contP_ok (l : List UInt8) (i j : Nat) (v : Bool) (h : (contP l i j v).2.2 = 0) : (contP l i j v).2.1 = (j : Int) := contF_ok l j v _ _ _ h
theorem skipP_ok (s : ByteArray) (i n : Nat) (t : List UInt8) (ht : t ≠ []) (hi : i + n ≤ s.size) (h : (skipP s.data.toList i n t).2 = 0) : ∃ z : Nat, (skipP s.data.toList i n t).1 = (z : Int) ∧ i < z ∧ z ≤ s.size := by
  have hsl : s.data.toList.length = s.size := by simp
  have h0 : 0 < t.length := List.length_pos_iff.2 ht
  unfold skipP at h ⊢
  split at h
  · simp at h
  · rename_i h1
    rw [if_neg h1]
    have hb := nextP_bd s.data.toList (i + n) t
    rw [hsl] at hb
    exact ⟨(nextP s.data.toList (i + n) t + (t.length : Int)).toNat, by omega, by omega, by omega⟩
theorem endP_ok (s : ByteArray) (i : Nat) (hi : i + 2 ≤ s.size) (h : (endP s i).2.2 = 0) : ∃ z : Nat, (endP s i).2.1 = (z : Int) ∧ i < z ∧ z ≤ s.size := by
  have hsl : s.data.toList.length = s.size := by simp
  rw [endP_def] at h ⊢
  have hb := nmP_le s (i + 2) hi
  generalize nmP s (i + 2) = n at *
  have hk := spP_le s.data.toList n (by omega)
  generalize spP s.data.toList n = k at *
  split at h
  · exact absurd h (misP_ne _ _ _)
  · rename_i h1
    rw [if_neg h1]
    split at h
    · rename_i h2
      rw [if_pos h2]
      have := hasP_len h2 (by decide)
      simp only [List.length_cons, List.length_nil] at this
      exact ⟨k + 1, by simp, by omega, by omega⟩
    · exact absurd h (misP_ne _ _ _)
theorem startGo_ok (s : ByteArray) (i : Nat) (N : List UInt8) : ∀ f a acc, s.size - a < f → i < a → a ≤ s.size → (startGo s i N f a acc).p2 = 0 → ∃ z : Nat, (startGo s i N f a acc).p1 = (z : Int) ∧ i < z ∧ z ≤ s.size
  | 0, a, acc, hf, _, _, _ => absurd hf (by omega)
  | f + 1, a, acc, hf, hia, ha, h => by
    have hsl : s.data.toList.length = s.size := by simp
    rw [startGo] at h ⊢
    have hk := spP_le s.data.toList a (by omega)
    rw [hsl] at hk
    generalize spP s.data.toList a = m at *
    split
    · rename_i h1
      have := hasP_len h1 (by decide)
      simp only [List.length_cons, List.length_nil] at this
      exact ⟨m + 1, by simp, by omega, by omega⟩
    · rename_i h1
      rw [if_neg h1] at h
      split
      · rename_i h2
        have := hasP_len h2 (by decide)
        simp only [List.length_cons, List.length_nil] at this
        exact ⟨m + 2, by simp, by omega, by omega⟩
      · rename_i h2
        rw [if_neg h2] at h
        split
        · rename_i h3
          rw [if_pos h3] at h
          exact absurd h (misP_ne _ _ _)
        · rename_i h3
          rw [if_neg h3] at h
          split
          · rename_i h4
            rw [if_pos h4] at h
            exact absurd h (misP_ne _ _ _)
          · rename_i h4
            rw [if_neg h4] at h
            split
            · rename_i h5
              rw [if_pos h5] at h
              exact absurd h h5
            · rename_i h5
              rw [if_neg h5] at h
              obtain ⟨z, hz, hz1, hz2⟩ := attrP_ok s i m (by omega) (by simpa using h5)
              split
              · rename_i h6
                rw [if_pos h6] at h
                simp at h
              · rename_i h6
                rw [if_neg h6] at h
                rw [hz, Int.toNat_natCast] at h ⊢
                exact startGo_ok s i N f z _ (by omega) (by omega) hz2 h
theorem startP_ok (s : ByteArray) (i : Nat) (hi : i + 1 ≤ s.size) (h : (startP s i).p2 = 0) : ∃ z : Nat, (startP s i).p1 = (z : Int) ∧ i < z ∧ z ≤ s.size := by
  unfold startP at h ⊢
  have hb := nmP_le s (i + 1) hi
  split
  · rename_i h1
    rw [if_pos h1] at h
    exact absurd h (misP_ne _ _ _)
  · rename_i h1
    rw [if_neg h1] at h
    exact startGo_ok s i _ _ _ _ (by omega) (by omega) hb.2 h
theorem consP_ok (s : ByteArray) (i : Nat) (hi : i < s.size) (h : (consP s i).2.2 = 0) : ∃ z : Nat, (consP s i).2.1 = (z : Int) ∧ i < z ∧ z ≤ s.size := by
  have hsl : s.data.toList.length = s.size := by simp
  unfold consP at h ⊢
  split
  · rename_i h1
    rw [if_pos h1] at h
    have := hasP_len h1 (by decide)
    rw [hsl] at this
    exact skipP_ok s i 2 _ (by decide) this h
  · rename_i h1
    rw [if_neg h1] at h
    split
    · rename_i h2
      rw [if_pos h2] at h
      have := hasP_len h2 (by decide)
      rw [hsl] at this
      exact skipP_ok s i 4 _ (by decide) this h
    · rename_i h2
      rw [if_neg h2] at h
      split
      · rename_i h3
        rw [if_pos h3] at h
        have hl := hasP_len h3 (by decide)
        rw [hsl] at hl
        unfold cdataP at h ⊢
        split
        · rename_i h4
          rw [if_pos h4] at h
          exact absurd h h4
        · rename_i h4
          exact skipP_ok s i 9 _ (by decide) hl (by simpa using h4)
      · rename_i h3
        rw [if_neg h3] at h
        split
        · rename_i h4
          rw [if_pos h4] at h
          simp at h
        · rename_i h4
          rw [if_neg h4] at h
          split
          · rename_i h5
            rw [if_pos h5] at h
            simp at h
          · rename_i h5
            rw [if_neg h5] at h
            split
            · rename_i h6
              rw [if_pos h6] at h
              have hl := hasP_len h6 (by decide)
              rw [hsl] at hl
              exact endP_ok s i hl h
            · rename_i h6
              rw [if_neg h6] at h
              split
              · rename_i h7
                rw [if_pos h7] at h
                have hl := hasP_len h7 (by decide)
                rw [hsl] at hl
                exact startP_ok s i hl h
              · rename_i h7
                rw [if_neg h7] at h
                unfold dataP at h ⊢
                have hb := dataEnd_bd s i (by omega)
                refine ⟨dataEnd s i, contP_ok _ _ _ _ h, ?_, hb.2⟩
                have hm := nextP_miss s.data.toList i [60] (by omega) (by simpa using h7)
                have hn := nextP_bd s.data.toList (i + 1) [60]
                unfold dataEnd
                rw [hm]
                split <;> omega

/-! ### rows of tokens -/
def tokCells (p : TokD × Value) : List Value := [.int .i64 p.1.kind, .string (ofBytes p.1.nm), p.2, .bool p.1.em, .string (ofBytes p.1.tx), .int .i64 p.1.at']
def toksCells (ps : List (TokD × Value)) : List Value := ps.flatMap tokCells
theorem toksCells_app (l m : List (TokD × Value)) : toksCells (l ++ m) = toksCells l ++ toksCells m := by unfold toksCells; rw [List.flatMap_append]
theorem rows_apart {w : World} {B B' : Nat} {e e' : TypeId} {k k' n n' : Nat} {v v' : Value} {xs xs' : List Value} (h : w.ownsRow B e k v n xs) (h' : w.ownsRow B' e' k' v' n' xs') (hne : e ≠ e') : v.ownBlock = none ∨ v.ownBlock ≠ v'.ownBlock := by
  rcases hg : v.ownBlock with _ | g
  · exact .inl rfl
  · right
    intro heq
    obtain ⟨c1, f1, h1⟩ := Go.Lib.ownsRow_kind h g hg
    obtain ⟨c2, f2, h2⟩ := Go.Lib.ownsRow_kind h' g heq.symm
    rw [h1] at h2
    injection h2 with h3
    injection h3 with _ h4
    exact hne h4

/-! ### Tokens -/
/-- What Tokens returns from a place on, with a bound on the number of steps. -/
def tokGo (s : ByteArray) : Nat → Nat → List TokD → List TokD × Int × Int
  | 0, _, acc => (acc, (s.size : Int), 0)
  | f + 1, a, acc => if a < s.size then (if (consP s a).2.2 ≠ 0 then ([], (consP s a).2.1, (consP s a).2.2)
      else tokGo s f (consP s a).2.1.toNat (if (consP s a).1.kind ≠ 3 ∨ (consP s a).1.tx ≠ [] then acc ++ [(consP s a).1] else acc)) else (acc, (s.size : Int), 0)
def toksP (s : ByteArray) : List TokD × Int × Int :=
  if (chk s).2 ≠ 0 then ([], ((chk s).1 : Int), ((chk s).2 : Int)) else tokGo s (s.size + 1) (if hasP s.data.toList 0 [239, 187, 191] then 3 else 0) []
/-! ### The reference of layer 6: Tokens: the walk. -/
theorem tok_one (t : TokD) (A : Option Addr) (n c : Nat) : ∀ u ∈ tokCells (t, .slice A n c), u.oneCell' = true := by
  intro u hu
  simp [tokCells] at hu
  rcases hu with rfl | rfl | rfl | rfl | rfl | rfl <;> rfl
theorem tok_new (w : World) (ty : TypeId) (p : TokD × Value) : ∀ j u, (tokCells p)[j]? = some u → (w.alloc (.cells #[.int .i64 p.1.kind, .string (ofBytes p.1.nm), p.2, .bool p.1.em, .string (ofBytes p.1.tx), .int .i64 p.1.at'] ty)).cell? ((⟨w.heap.size, 0, none⟩ : Addr).add j) = some u := by
  intro j u hu
  rw [addr_add, World.cell?_alloc_at _ _ _ _ rfl, List.getElem?_toArray]
  exact hu
theorem tok_new2 (w : World) (o : Obj) (ty : TypeId) (p : TokD × Value) : ∀ j u, (tokCells p)[j]? = some u → ((w.alloc o).alloc (.cells #[.int .i64 p.1.kind, .string (ofBytes p.1.nm), p.2, .bool p.1.em, .string (ofBytes p.1.tx), .int .i64 p.1.at'] ty)).cell? ((⟨w.heap.size + 1, 0, none⟩ : Addr).add j) = some u := by
  have h : w.heap.size + 1 = (w.alloc o).heap.size := by simp
  rw [h]
  exact tok_new _ _ _
/-! ### Rows of tokens as they are read; what the laws of layer 6 compare them with. -/
theorem kblock_lt {w : World} {a : Addr} {v : Value} (hc : w.cell? a = some v) : a.block < w.heap.size := by
  rcases Nat.lt_or_ge a.block w.heap.size with h' | h'
  · exact h'
  · simp [World.cell?, Array.getElem?_eq_none h'] at hc
theorem AttrsAt.below {w w' : World} {p : Option Addr} {l : List AttrD} (h : AttrsAt w p l) (hb : Below w.heap.size w w') : AttrsAt w' p l := by
  intro i hi
  obtain ⟨a, ha, h0, h1, h2, h3⟩ := h i hi
  exact ⟨a, ha, (hb.cell (kblock_lt h0)).trans h0, (hb.cell (kblock_lt h1)).trans h1, (hb.cell (kblock_lt h2)).trans h2, (hb.cell (kblock_lt h3)).trans h3⟩
/-- A slice of tokens lies in memory. -/
def TokensAt (w : World) (p : Option Addr) (l : List TokD) : Prop := ∀ i (h : i < l.length), ∃ a q c, p = some a ∧
  (w.cell? (a.add (i * 6)) = some (.int .i64 l[i].kind) ∧ w.cell? ((a.add (i * 6)).add 1) = some (.string (ofBytes l[i].nm)) ∧ w.cell? ((a.add (i * 6)).add 2) = some (.slice q l[i].al.length c) ∧ w.cell? ((a.add (i * 6)).add 3) = some (.bool l[i].em) ∧ w.cell? ((a.add (i * 6)).add 4) = some (.string (ofBytes l[i].tx)) ∧ w.cell? ((a.add (i * 6)).add 5) = some (.int .i64 l[i].at')) ∧ AttrsAt w q l[i].al
theorem TokensAt.below {w w' : World} {p : Option Addr} {l : List TokD} (h : TokensAt w p l) (hb : Below w.heap.size w w') : TokensAt w' p l := by
  intro i hi
  obtain ⟨a, q, c, ha, ⟨h0, h1, h2, h3, h4, h5⟩, h6⟩ := h i hi
  exact ⟨a, q, c, ha, ⟨(hb.cell (kblock_lt h0)).trans h0, (hb.cell (kblock_lt h1)).trans h1, (hb.cell (kblock_lt h2)).trans h2, (hb.cell (kblock_lt h3)).trans h3, (hb.cell (kblock_lt h4)).trans h4, (hb.cell (kblock_lt h5)).trans h5⟩, h6.below hb⟩
theorem tokCells_len (ps : List (TokD × Value)) : (toksCells ps).length = ps.length * 6 := by
  induction ps with
  | nil => rfl
  | cons x r ih => rw [toksCells, List.flatMap_cons, List.length_append, List.length_cons]; rw [toksCells] at ih; rw [ih]; show 6 + _ = _; omega
theorem toksCells_at : ∀ (l : List (TokD × Value)) (i : Nat) (h : i < l.length) (k : Nat), k < 6 → (toksCells l)[i * 6 + k]? = (tokCells l[i])[k]?
  | [], i, h, _, _ => absurd h (Nat.not_lt_zero _)
  | x :: r, 0, _, k, hk => by
    show (tokCells x ++ toksCells r)[0 * 6 + k]? = (tokCells x)[k]?
    rw [List.getElem?_append_left (by show 0 * 6 + k < 6; omega)]
    simp
  | x :: r, i + 1, h, k, hk => by
    show (tokCells x ++ toksCells r)[(i + 1) * 6 + k]? = _
    rw [List.getElem?_append_right (by show 6 ≤ (i + 1) * 6 + k; omega)]
    show (toksCells r)[(i + 1) * 6 + k - 6]? = _
    rw [show (i + 1) * 6 + k - 6 = i * 6 + k by omega, toksCells_at r i (by simpa using h) k hk]
    rfl
/-! ### Plain facts of layer 6: the examples of the chapter. -/
theorem ex_1 : toksP ⟨#[60, 97, 32, 98, 61, 39, 49, 39, 47, 62, 120]⟩ = ([⟨1, [97], [attrOf [98] [49] 3], true, [], 0⟩, tokT [120] 10], 11, 0) := by kernel_rfl
theorem ex_2 : toksP ⟨#[60, 97, 32, 98, 61, 49, 62]⟩ = ([], 5, 7) := by kernel_rfl
theorem ex_3 : toksP ⟨#[60, 97]⟩ = ([], 0, 8) := by kernel_rfl
theorem ex_4 : toksP ⟨#[60, 33, 68, 79, 67, 84, 89, 80, 69, 32, 120, 62]⟩ = ([], 0, 11) := by kernel_rfl
theorem ex_5 : isQB ⟨#[120, 58, 121]⟩ = true := by kernel_rfl
end Go.Proofs.YtpphpnkijokffaaDoor
