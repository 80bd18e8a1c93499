/- Plain facts of layer 6: offsets; documents without markup. -/
import Derived.Test.YtpphpnkijokffaaGreatDoorTokM
import Derived.Lib.Bytes
namespace Go.Proofs.YtpphpnkijokffaaGreatDoor
open Go.RowKit

/-! ### Plain facts of layer 6: the offsets that Tokens returns. -/
/-- Within a string of so many bytes. -/
def inS (n : Nat) (x : Int) : Prop := 0 ≤ x ∧ x ≤ (n : Int)
theorem contF_bd (l : List UInt8) (j : Nat) (v : Bool) : ∀ f i out, inS j (contF l j v f i out).2.1
  | 0, i, out => ⟨by show 0 ≤ (j : Int); omega, Int.le_refl _⟩
  | f + 1, i, out => by
    rw [contF]
    split
    · split
      · split
        · exact contF_bd l j v f _ _
        · exact ⟨by simp only; omega, by simp only; omega⟩
      · exact contF_bd l j v f _ _
    · exact ⟨by simp only; omega, Int.le_refl _⟩
theorem contP_bd (l : List UInt8) (i j : Nat) (v : Bool) : inS j (contP l i j v).2.1 := contF_bd l j v _ _ _
theorem inS_mono {n m : Nat} {x : Int} (h : inS n x) (hm : n ≤ m) : inS m x := ⟨h.1, by have := h.2; omega⟩
theorem misP_bd {n i : Nat} {k : Int} (hi : i ≤ n) (hk : 0 ≤ k) : inS n (misP n i k).1 := by
  unfold misP inS
  split <;> simp only <;> omega
theorem attrP_bd (s : ByteArray) (i a : Nat) (hi : i ≤ s.size) (ha : a ≤ s.size) : inS s.size (attrP s i a).2.1 := by
  have hsl : s.data.toList.length = s.size := by simp
  have a4 : ∀ N m e, e ≤ s.size → inS s.size (attr4 s i N e (contP s.data.toList (m + 1) e true)).2.1 := by
    intro N m e he
    unfold attr4
    split
    · exact inS_mono (contP_bd _ _ _ _) he
    · split
      · exact ⟨by simp only; omega, by simp only; omega⟩
      · split <;> exact ⟨by simp only; omega, by simp only; omega⟩
  rw [attrP_def]
  have hb := nmP_le s a ha
  split
  · exact misP_bd hi (by omega)
  · generalize (s.data.toList.drop a).take (nmP s a - a) = N at *
    generalize nmP s a = n at *
    have hk := spP_le s.data.toList n (by omega)
    rw [hsl] at hk
    generalize spP s.data.toList n = k at *
    unfold attr1
    split
    · rename_i h2
      obtain ⟨hkl, _⟩ := hasP_one _ _ _ h2
      have hm := spP_le s.data.toList (k + 1) (by omega)
      rw [hsl] at hm
      generalize spP s.data.toList (k + 1) = m at *
      have q := fun x => quoAt_bd s.data.toList x (m + 1)
      unfold attr2
      split
      · rename_i h3
        obtain ⟨hml, _⟩ := hasP_one _ _ _ h3
        exact a4 N m _ (by have := (q 34).2 (by omega); omega)
      · split
        · rename_i h3
          obtain ⟨hml, _⟩ := hasP_one _ _ _ h3
          exact a4 N m _ (by have := (q 39).2 (by omega); omega)
        · exact misP_bd hi (by omega)
    · exact misP_bd hi (by omega)
theorem startGo_bd (s : ByteArray) (i : Nat) (N : List UInt8) (hi : i ≤ s.size) : ∀ f a acc, s.size - a < f → a ≤ s.size → inS s.size (startGo s i N f a acc).p1
  | 0, a, acc, hf, _ => absurd hf (by omega)
  | f + 1, a, acc, hf, ha => by
    have hsl : s.data.toList.length = s.size := by simp
    rw [startGo]
    have hk := spP_le s.data.toList a (by omega)
    rw [hsl] at hk
    generalize spP s.data.toList a = m at *
    split
    · rename_i h1
      have := hasP_len h1 (by decide)
      simp only [List.length_cons, List.length_nil] at this
      exact ⟨by simp only; omega, by simp only; omega⟩
    · split
      · rename_i h1
        have := hasP_len h1 (by decide)
        simp only [List.length_cons, List.length_nil] at this
        exact ⟨by simp only; omega, by simp only; omega⟩
      · split
        · exact misP_bd hi (by omega)
        · split
          · exact misP_bd hi (by omega)
          · split
            · exact attrP_bd s i m hi (by omega)
            · rename_i h4 h5
              obtain ⟨z, hz, hz1, hz2⟩ := attrP_ok s i m (by omega) (by simpa using h5)
              split
              · exact ⟨by simp only; omega, by simp only; omega⟩
              · rw [hz, Int.toNat_natCast]
                exact startGo_bd s i N hi f z _ (by omega) hz2
theorem skipP_bd (s : ByteArray) (i n : Nat) (t : List UInt8) (hi : i + n ≤ s.size) : inS s.size (skipP s.data.toList i n t).1 := by
  have hsl : s.data.toList.length = s.size := by simp
  unfold skipP
  have hb := nextP_bd s.data.toList (i + n) t
  rw [hsl] at hb
  split
  · exact ⟨by simp only; omega, by simp only; omega⟩
  · exact ⟨by simp only; omega, by simp only; omega⟩
theorem consP_bd (s : ByteArray) (i : Nat) (hi : i < s.size) : inS s.size (consP s i).2.1 := by
  have hsl : s.data.toList.length = s.size := by simp
  have hii : inS s.size (i : Int) := ⟨by omega, by omega⟩
  unfold consP
  split
  · rename_i h1
    have := hasP_len h1 (by decide)
    rw [hsl] at this
    exact skipP_bd s i 2 _ this
  · split
    · rename_i h2
      have := hasP_len h2 (by decide)
      rw [hsl] at this
      exact skipP_bd s i 4 _ this
    · split
      · rename_i h3
        have := hasP_len h3 (by decide)
        rw [hsl] at this
        unfold cdataP
        split <;> exact skipP_bd s i 9 _ this
      · split
        · exact hii
        · split
          · exact hii
          · split
            · rename_i h6
              have hl := hasP_len h6 (by decide)
              rw [hsl] at hl
              simp only
              rw [endP_def]
              have hb := nmP_le s (i + 2) hl
              generalize nmP s (i + 2) = n at *
              have hk := spP_le s.data.toList n (by omega)
              generalize spP s.data.toList n = k at *
              split
              · exact misP_bd (by omega) (by omega)
              · split
                · rename_i h8
                  have := hasP_len h8 (by decide)
                  simp only [List.length_cons, List.length_nil] at this
                  exact ⟨by simp only; omega, by simp only; omega⟩
                · exact misP_bd (by omega) (by omega)
            · split
              · rename_i h7
                have hl := hasP_len h7 (by decide)
                rw [hsl] at hl
                simp only
                unfold startP
                have hb := nmP_le s (i + 1) hl
                split
                · exact misP_bd (by omega) (by omega)
                · exact startGo_bd s i _ (by omega) _ _ _ (by omega) hb.2
              · unfold dataP
                exact inS_mono (contP_bd _ _ _ _) (dataEnd_bd s i (by omega)).2
/-- A token that is kept bears the place where it begins. -/
theorem consP_at (s : ByteArray) (i : Nat) (h0 : (consP s i).2.2 = 0) (hk : (consP s i).1.kind ≠ 3 ∨ (consP s i).1.tx ≠ []) : (consP s i).1.at' = (i : Int) := by
  unfold consP at h0 hk ⊢
  split
  · rename_i h1
    rw [if_pos h1] at hk
    rcases hk with h | h <;> exact absurd rfl h
  · rename_i h1
    rw [if_neg h1] at hk h0
    split
    · rename_i h2
      rw [if_pos h2] at hk
      rcases hk with h | h <;> exact absurd rfl h
    · rename_i h2
      rw [if_neg h2] at hk h0
      split
      · rename_i h3
        rw [if_pos h3] at h0
        unfold cdataP at h0 ⊢
        split
        · rename_i h4
          rw [if_pos h4] at h0
          exact absurd h0 h4
        · rfl
      · rename_i h3
        rw [if_neg h3] at hk h0
        split
        · rename_i h4
          rw [if_pos h4] at h0
          simp at h0
        · rename_i h4
          rw [if_neg h4] at hk h0
          split
          · rename_i h5
            rw [if_pos h5] at h0
            simp at h0
          · split
            · rfl
            · split <;> rfl
/-- Offsets that increase, from one on, below another. -/
def Rises : Int → Nat → List TokD → Prop
  | _, _, [] => True
  | lo, n, t :: r => lo < t.at' ∧ t.at' < (n : Int) ∧ Rises t.at' n r
theorem Rises_app (n : Nat) : ∀ (l : List TokD) (lo : Int) (k : Nat) (t : TokD), Rises lo k l → lo < (k : Int) → k < n → t.at' = (k : Int) → Rises lo (k + 1) (l ++ [t])
  | [], lo, k, t, _, h1, _, h3 => ⟨by rw [h3]; exact h1, by rw [h3]; omega, trivial⟩
  | u :: r, lo, k, t, h, h1, h2, h3 => ⟨h.1, by have := h.2.1; omega, Rises_app n r u.at' k t h.2.2 h.2.1 h2 h3⟩
theorem Rises_mono : ∀ (l : List TokD) (lo : Int) (k m : Nat), Rises lo k l → k ≤ m → Rises lo m l
  | [], _, _, _, _, _ => trivial
  | u :: r, lo, k, m, h, hm => ⟨h.1, by have := h.2.1; omega, Rises_mono r u.at' k m h.2.2 hm⟩
/-- What the law on offsets asks. -/
def OffsOk (n : Nat) (R : List TokD × Int × Int) : Prop := Rises (-1) n R.1 ∧ inS n R.2.1 ∧ (R.2.2 = 0 → R.2.1 = (n : Int)) ∧ (R.2.2 ≠ 0 → R.1 = [])
theorem tokGo_ok (s : ByteArray) : ∀ f a acc, s.size - a < f → a ≤ s.size → Rises (-1) a acc → OffsOk s.size (tokGo s f a acc)
  | 0, a, acc, hf, _, _ => absurd hf (by omega)
  | f + 1, a, acc, hf, ha, hr => by
    rw [tokGo]
    split
    · rename_i h1
      split
      · rename_i h2
        exact ⟨trivial, consP_bd s a h1, fun h => absurd h h2, fun _ => rfl⟩
      · rename_i h2
        have h0 : (consP s a).2.2 = 0 := by simpa using h2
        obtain ⟨z, hz, hz1, hz2⟩ := consP_ok s a h1 h0
        rw [hz, Int.toNat_natCast]
        refine tokGo_ok s f z _ (by omega) hz2 ?_
        split
        · rename_i h3
          exact Rises_mono _ _ (a + 1) _ (Rises_app (a + 1) acc (-1) a _ hr (by omega) (by omega) (consP_at s a h0 h3)) (by omega)
        · exact Rises_mono _ _ a _ hr (by omega)
    · exact ⟨Rises_mono _ _ a _ hr ha, ⟨by simp only; omega, Int.le_refl _⟩, fun _ => rfl, fun h => absurd rfl h⟩
theorem toksP_ok (s : ByteArray) : OffsOk s.size (toksP s) := by
  have hsl : s.data.toList.length = s.size := by simp
  unfold toksP
  split
  · rename_i h
    have hb := (chk_le s).1
    exact ⟨trivial, ⟨by simp only; omega, by simp only; omega⟩, fun h0 => absurd (by simpa using h0) h, fun _ => rfl⟩
  · refine tokGo_ok s _ _ _ (by split <;> omega) ?_ trivial
    split
    · rename_i h
      have := hasP_len (i := 0) h (by decide)
      rw [hsl] at this
      simpa using this
    · omega
/-! ### Plain facts of layer 6: a document without markup and references is one token. -/
theorem linesP_ne : ∀ l : List UInt8, l ≠ [] → linesP l ≠ []
  | [], h => absurd rfl h
  | c :: r, _ => by
    rw [linesP]
    split
    · rename_i h
      refine linesP_ne r fun hr => ?_
      rw [hr] at h
      simp at h
    · exact List.cons_ne_nil _ _
theorem hasP_not {l : List UInt8} {i : Nat} {c : UInt8} {t : List UInt8} (h : ∀ x ∈ l, x ≠ c) : hasP l (i : Int) (c :: t) = false := by
  rw [← Bool.not_eq_true]
  intro hh
  unfold hasP at hh
  rw [Bool.and_eq_true, Int.toNat_natCast] at hh
  have h2 := List.isPrefixOf_iff_prefix.1 hh.2
  have h3 : c ∈ l.drop i := h2.subset List.mem_cons_self
  exact h c (List.mem_of_mem_drop h3) rfl
theorem nextP_not (l : List UInt8) (c : UInt8) (h : ∀ x ∈ l, x ≠ c) : ∀ (d i : Nat), l.length - i ≤ d → nextP l i [c] = -1
  | 0, i, hd => nextP_end l i [c] (by simp) (by simp only [List.length_cons, List.length_nil]; omega)
  | d + 1, i, hd => by
    rcases Nat.lt_or_ge i l.length with hi | hi
    · rw [nextP_miss l i [c] hi (hasP_not h)]
      exact nextP_not l c h d (i + 1) (by omega)
    · exact nextP_end l i [c] (by simp) (by simp only [List.length_cons, List.length_nil]; omega)
theorem amp_not : ∀ l : List UInt8, (∀ x ∈ l, x ≠ 38) → amp l = l
  | [], _ => rfl
  | c :: r, h => by rw [amp_cons c r (h c List.mem_cons_self), amp_not r fun x hx => h x (List.mem_cons_of_mem _ hx)]
theorem contP_plain (l : List UInt8) (h : ∀ x ∈ l, x ≠ 38) (hne : l ≠ []) : contP l 0 l.length false = (linesP l, (l.length : Int), 0) := by
  have hlen : 0 < l.length := List.length_pos_iff.2 hne
  have hch : chunk l 0 l.length = l := by
    unfold chunk
    rw [List.drop_zero, Nat.sub_zero, List.take_length, amp_not l h]
  have h0 : l.getD 0 0 ≠ 38 := by
    rw [List.getD_eq_getElem?_getD, List.getElem?_eq_getElem hlen]
    exact h _ (List.getElem_mem _)
  unfold contP
  rw [contF, if_pos hlen, if_neg h0, hch, Nat.zero_add]
  rcases hl : l.length with _ | k
  · omega
  · rw [contF, if_neg (by omega)]
    simp [spMap]
/-- A document without markup and references. -/
theorem toksP_plain (s : ByteArray) (h60 : ∀ x ∈ s.data.toList, x ≠ 60) (h38 : ∀ x ∈ s.data.toList, x ≠ 38) (hb : hasP s.data.toList 0 [239, 187, 191] = false) (hc : (chk s).2 = 0) :
    toksP s = if s.size = 0 then ([], 0, 0) else ([tokT (linesP s.data.toList) 0], (s.size : Int), 0) := by
  have hsl : s.data.toList.length = s.size := by simp
  unfold toksP
  rw [if_neg (by simpa using hc), hb, if_neg (by decide)]
  by_cases h0 : s.size = 0
  · rw [if_pos h0, tokGo, if_neg (by omega), h0]; rfl
  · have hne : s.data.toList ≠ [] := fun h => h0 (by rw [← hsl, h]; rfl)
    have hde : dataEnd s 0 = s.size := by
      unfold dataEnd
      rw [nextP_not s.data.toList 60 h60 s.size 0 (by omega), if_pos (by decide)]
    have hcp : consP s 0 = (tokT (linesP s.data.toList) 0, (s.size : Int), 0) := by
      unfold consP
      rw [hasP_not h60, hasP_not h60, hasP_not h60, hasP_not h60, hasP_not h60, hasP_not h60, hasP_not h60]
      simp only [Bool.false_eq_true, if_false]
      unfold dataP
      rw [hde, ← hsl, contP_plain s.data.toList h38 hne, hsl]
      rfl
    rw [if_neg h0, tokGo, if_pos (by omega), hcp]
    simp only [ne_eq, not_true_eq_false, if_false, Int.toNat_natCast]
    rw [if_pos (.inr (linesP_ne _ hne))]
    rcases hz : s.size with _ | k
    · omega
    · rw [tokGo, if_neg (by omega)]
      simp [hz]
end Go.Proofs.YtpphpnkijokffaaGreatDoor
