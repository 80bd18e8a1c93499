/- Plain lemmas for the laws of layer 1 on collapsing and on concatenation. -/
import Derived.Test.YtdkinamblobjpaaDoorTextT
import Derived.Test.YtdkinamblobjpaaDoorTextE
namespace Go.Proofs.YtdkinamblobjpaaDoor
open Go.RowKit Go.Lib

/-! ### Collapse -/
theorem sp32 : sp 32 = true := by decide
theorem colGo_cons_sp (st pv : Bool) (c : UInt8) (r : List UInt8) (h : sp c = true) : colGo st pv (c :: r) = colGo st true r := by rw [colGo, if_pos h]
theorem colGo_cons_no (st pv : Bool) (c : UInt8) (r : List UInt8) (h : sp c = false) : colGo st pv (c :: r) = if st && pv then 32 :: c :: colGo true false r else c :: colGo true false r := by
  rw [colGo, if_neg (by simp [h])]
theorem colGo_false (pv : Bool) : ∀ l, colGo false pv l = colGo false false l
  | [] => rfl
  | c :: r => by
    rcases h : sp c with _ | _
    · rw [colGo_cons_no _ _ _ _ h, colGo_cons_no _ _ _ _ h]; rfl
    · rw [colGo_cons_sp _ _ _ _ h, colGo_cons_sp _ _ _ _ h]
theorem colGo_again : ∀ (l : List UInt8) (pv : Bool), colGo true false (colGo true pv l) = colGo true pv l
  | [], _ => rfl
  | c :: r, pv => by
    rcases h : sp c with _ | _
    · rw [colGo_cons_no _ _ _ _ h]
      have ih := colGo_again r false
      cases pv
      · simp only [Bool.and_false, Bool.false_eq_true, if_false]
        rw [colGo_cons_no _ _ _ _ h, ih]; rfl
      · simp only [Bool.and_true, if_true]
        rw [colGo_cons_sp _ _ _ _ sp32, colGo_cons_no _ _ _ _ h, ih]; rfl
    · rw [colGo_cons_sp _ _ _ _ h]; exact colGo_again r true
theorem collapse_again' : ∀ (l : List UInt8) (pv : Bool), colGo false false (colGo false pv l) = colGo false pv l
  | [], _ => rfl
  | c :: r, pv => by
    rcases h : sp c with _ | _
    · rw [colGo_cons_no _ _ _ _ h]
      simp only [Bool.false_and, Bool.false_eq_true, if_false]
      rw [colGo_cons_no _ _ _ _ h, colGo_again r false]; rfl
    · rw [colGo_cons_sp _ _ _ _ h]; exact collapse_again' r true
/-- The result of Collapse is collapsed. -/
theorem collapse_again (l : List UInt8) : collapse (collapse l) = collapse l := collapse_again' l false
theorem colGo_two : ∀ l, colGo true true l = match collapse l with | [] => [] | m => 32 :: m
  | [] => rfl
  | c :: r => by
    rcases h : sp c with _ | _
    · rw [colGo_cons_no _ _ _ _ h, collapse, colGo_cons_no _ _ _ _ h]; rfl
    · rw [colGo_cons_sp _ _ _ _ h, colGo_two r, collapse, collapse, colGo_cons_sp _ _ _ _ h, colGo_false true r]
/-- A prefix and the state that it leaves, where a white space byte follows. -/
theorem colGo_append : ∀ (a b : List UInt8) (st pv : Bool) (x : UInt8), sp x = true → colGo st pv (a ++ x :: b) = colGo st pv a ++ colGo (st || a.any fun c => !sp c) true b
  | [], b, st, pv, x, hx => by simp [colGo_cons_sp _ _ _ _ hx, colGo]
  | c :: a, b, st, pv, x, hx => by
    rw [List.cons_append]
    rcases h : sp c with _ | _
    · rw [colGo_cons_no _ _ _ _ h, colGo_cons_no _ _ _ _ h, colGo_append a b true false x hx]
      simp only [List.any_cons, h, Bool.not_false, Bool.true_or, Bool.or_true]
      split <;> rfl
    · rw [colGo_cons_sp _ _ _ _ h, colGo_cons_sp _ _ _ _ h, colGo_append a b st true x hx]
      simp only [List.any_cons, h, Bool.not_true, Bool.false_or]
theorem any_colGo : ∀ (l : List UInt8) (st pv : Bool), ((colGo st pv l).any fun c => !sp c) = l.any fun c => !sp c
  | [], _, _ => rfl
  | c :: r, st, pv => by
    rcases h : sp c with _ | _
    · rw [colGo_cons_no _ _ _ _ h]
      split <;> simp [h]
    · rw [colGo_cons_sp _ _ _ _ h, any_colGo r st true, List.any_cons, h]; simp
theorem collapse_composes (s t : List UInt8) (x : UInt8) (hx : sp x = true) : collapse (s ++ [x] ++ t) = collapse (collapse s ++ [x] ++ [x] ++ collapse t) := by
  have e1 : s ++ [x] ++ t = s ++ x :: t := by simp
  have e2 : collapse s ++ [x] ++ [x] ++ collapse t = collapse s ++ x :: (x :: collapse t) := by simp
  rw [e1, e2]
  show colGo false false _ = colGo false false _
  rw [colGo_append s t false false x hx, colGo_append (collapse s) (x :: collapse t) false false x hx, colGo_cons_sp _ _ _ _ hx]
  have e3 : colGo false false (collapse s) = collapse s := collapse_again s
  have e4 : ((collapse s).any fun c => !sp c) = s.any fun c => !sp c := any_colGo s false false
  rw [e3, e4]
  show collapse s ++ _ = collapse s ++ _
  congr 1
  cases hb : (s.any fun c => !sp c)
  · show colGo false true t = colGo false true (collapse t)
    rw [colGo_false, colGo_false true (collapse t)]
    exact (collapse_again t).symm
  · show colGo true true t = colGo true true (collapse t)
    rw [colGo_two, colGo_two, collapse_again]
theorem colGo_length : ∀ (l : List UInt8) (st pv : Bool), (colGo st pv l).length ≤ l.length + (if st && pv then 1 else 0)
  | [], _, _ => by simp [colGo]
  | c :: r, st, pv => by
    rcases h : sp c with _ | _
    · rw [colGo_cons_no _ _ _ _ h]
      have ih := colGo_length r true false
      simp at ih
      split <;> simp <;> omega
    · rw [colGo_cons_sp _ _ _ _ h]
      have ih := colGo_length r st true
      rw [List.length_cons]
      cases st <;> cases pv <;> simp at ih ⊢ <;> omega
theorem collapse_length (l : List UInt8) : (collapse l).length ≤ l.length := by
  have := colGo_length l false false
  unfold collapse
  simpa using this

/-! ### Concatenation -/
theorem get_left (s t : ByteArray) (i : Nat) (h : i < s.size) : (s ++ t).get! i = s.get! i := by
  rw [Proofs.Utf8W.get!_of_lt _ i (by rw [ByteArray.size_append]; omega), Proofs.Utf8W.get!_of_lt _ i h]
  exact ByteArray.getElem_append_left h
theorem get_right (s t : ByteArray) (j : Nat) : (s ++ t).get! (s.size + j) = t.get! j := by
  have out : ∀ (u : ByteArray) (k : Nat), ¬ k < u.size → u.get! k = default := fun u k hk => by
    cases u with
    | mk d => exact getElem!_neg d k hk
  by_cases h : j < t.size
  · rw [Proofs.Utf8W.get!_of_lt _ _ (by rw [ByteArray.size_append]; omega), Proofs.Utf8W.get!_of_lt _ j h]
    rw [ByteArray.getElem_append_right (by omega)]
    congr 1
    omega
  · rw [out _ _ (by rw [ByteArray.size_append]; omega), out _ _ h]
theorem dec_right (s t : ByteArray) (j : Nat) : decP (s ++ t) (s.size + j) = decP t j := by
  unfold decP
  rw [dec_bytes, dec_bytes]
  have hz : (s ++ t).size - (s.size + j) = t.size - j := by rw [ByteArray.size_append]; omega
  rw [hz, get_right, Nat.add_assoc, get_right, Nat.add_assoc, get_right, Nat.add_assoc, get_right]
theorem byteZ_left (s t : ByteArray) (i : Nat) (h : i < s.size) : byteZ (s ++ t) i = byteZ s i := by unfold byteZ; rw [get_left s t i h]
theorem accZ_left (s t : ByteArray) (i : Nat) (k : Int) : ∀ j, i + j < s.size → accZ (s ++ t) i k j = accZ s i k j
  | 0, h => by rw [accZ, accZ, byteZ_left s t i (by omega)]
  | j + 1, h => by rw [accZ, accZ, accZ_left s t i k j (by omega), byteZ_left s t _ (by omega)]
theorem bytesZ_left (s t : ByteArray) (i k : Nat) (h : i + k ≤ s.size) : bytesZ (s ++ t) i k = bytesZ s i k := by
  unfold bytesZ
  apply List.map_congr_left
  intro j hj
  have := List.mem_range.1 hj
  exact byteZ_left s t _ (by omega)
theorem hit_left (s t : ByteArray) (i k : Nat) (hk : 1 ≤ k) (h : i + k ≤ s.size) : hitB (s ++ t) i k = hitB s i k := by
  rw [Bool.eq_iff_iff, hit_iff _ i k (by rw [ByteArray.size_append]; omega), hit_iff s i k h, bytesZ_left s t i k h, accZ_left s t i k (k - 1) (by omega)]
theorem dec_left (s t : ByteArray) (i : Nat) (hi : i < s.size) (hm : (decP s i).2 ≠ 0) : decP (s ++ t) i = decP s i := by
  have hex : ∃ k, 1 ≤ k ∧ k ≤ 4 ∧ i + k ≤ s.size ∧ hitB s i k = true := by
    apply Classical.byContradiction
    intro hno
    apply hm
    rw [dec_miss s i hi fun k h1 h2 h3 => by
      cases hb : hitB s i k
      · rfl
      · exact absurd ⟨k, h1, h2, h3, hb⟩ hno]
  obtain ⟨k, h1, h2, h3, hb⟩ := hex
  have a1 := dec_hit s i k h1 h2 h3 hb
  have a2 := dec_hit (s ++ t) i k h1 h2 (by rw [ByteArray.size_append]; omega) (by rw [hit_left s t i k h1 h3]; exact hb)
  rw [accZ_left s t i k (k - 1) (by omega)] at a2
  apply Prod.ext
  · omega
  · rw [a1.2, a2.2]
theorem chk_left (s t : ByteArray) : ∀ f i, s.size - i ≤ f → i ≤ s.size → (chkAt s i).2 = 0 → chkAt (s ++ t) i = chkAt (s ++ t) s.size
  | 0, i, h, hi, _ => by rw [show i = s.size by omega]
  | f + 1, i, h, hi, hc => by
    by_cases hlt : i < s.size
    · rw [chkAt_eq s i hlt] at hc
      by_cases h0 : (decP s i).2 = 0
      · rw [if_pos h0] at hc; simp at hc
      · rw [if_neg h0] at hc
        by_cases hch : isCharB (decP s i).1
        · rw [if_pos hch] at hc
          have hok := (decP_ok s i hlt).1
          rw [chkAt_eq (s ++ t) i (by rw [ByteArray.size_append]; omega), dec_left s t i hlt h0, if_neg h0, if_pos hch]
          exact chk_left s t f _ (by omega) hok hc
        · rw [if_neg hch] at hc; simp at hc
    · rw [show i = s.size by omega]
theorem chk_right (s t : ByteArray) : ∀ f j, t.size - j ≤ f → j ≤ t.size → chkAt (s ++ t) (s.size + j) = (s.size + (chkAt t j).1, (chkAt t j).2)
  | 0, j, h, hj => by
    rw [chkAt_end t j (by omega), chkAt_end _ _ (by rw [ByteArray.size_append]; omega)]
  | f + 1, j, h, hj => by
    by_cases hlt : j < t.size
    · rw [chkAt_eq t j hlt, chkAt_eq (s ++ t) (s.size + j) (by rw [ByteArray.size_append]; omega), dec_right]
      by_cases h0 : (decP t j).2 = 0
      · rw [if_pos h0, if_pos h0]
      · rw [if_neg h0, if_neg h0]
        by_cases hch : isCharB (decP t j).1
        · rw [if_pos hch, if_pos hch, Nat.add_assoc]
          exact chk_right s t f _ (by omega) (decP_ok t j hlt).1
        · rw [if_neg hch, if_neg hch]
    · rw [chkAt_end t j (by omega), chkAt_end _ _ (by rw [ByteArray.size_append]; omega)]
theorem chk_append (s t : ByteArray) (h : (chk s).2 = 0) : chk (s ++ t) = (s.size + (chk t).1, (chk t).2) := by
  have h1 := chk_left s t _ 0 (Nat.le_refl _) (Nat.zero_le _) h
  have h2 := chk_right s t _ 0 (Nat.le_refl _) (Nat.zero_le _)
  unfold chk
  rw [h1]
  exact h2
theorem char_of_start (r : Int) (h : nameStartB r = true) : nameCharB r = true := by unfold nameCharB; rw [h]; rfl
theorem name_left (s t : ByteArray) : ∀ f i, s.size - i ≤ f → i ≤ s.size → nameAt s i = true → nameAt (s ++ t) i = nameAt (s ++ t) s.size
  | 0, i, h, hi, _ => by rw [show i = s.size by omega]
  | f + 1, i, h, hi, hc => by
    by_cases hlt : i < s.size
    · rw [nameAt_eq s i hlt] at hc
      by_cases hch : nameCharB (decP s i).1
      · rw [if_pos hch] at hc
        have hpos := pos_of_name s i hlt hch
        have hok := (decP_ok s i hlt).1
        rw [nameAt_eq (s ++ t) i (by rw [ByteArray.size_append]; omega), dec_left s t i hlt (by omega), if_pos hch]
        exact name_left s t f _ (by omega) hok hc
      · rw [if_neg hch] at hc; cases hc
    · rw [show i = s.size by omega]
theorem name_right (s t : ByteArray) : ∀ f j, t.size - j ≤ f → j ≤ t.size → nameAt (s ++ t) (s.size + j) = nameAt t j
  | 0, j, h, hj => by
    rw [nameAt_end t j (by omega), nameAt_end _ _ (by rw [ByteArray.size_append]; omega)]
  | f + 1, j, h, hj => by
    by_cases hlt : j < t.size
    · rw [nameAt_eq t j hlt, nameAt_eq (s ++ t) (s.size + j) (by rw [ByteArray.size_append]; omega), dec_right]
      by_cases hch : nameCharB (decP t j).1
      · have hpos := pos_of_name t j hlt hch
        rw [if_pos hch, if_pos hch, Nat.add_assoc]
        exact name_right s t f _ (by omega) (decP_ok t j hlt).1
      · rw [if_neg hch, if_neg hch]
    · rw [nameAt_end t j (by omega), nameAt_end _ _ (by rw [ByteArray.size_append]; omega)]
theorem name_append (s t : ByteArray) (hs : isNameB s = true) (ht : isNameB t = true) : isNameB (s ++ t) = true := by
  have ps : 0 < s.size := by
    rcases Nat.eq_zero_or_pos s.size with h | h
    · rw [isNameB_empty s h] at hs; cases hs
    · exact h
  have pt : 0 < t.size := by
    rcases Nat.eq_zero_or_pos t.size with h | h
    · rw [isNameB_empty t h] at ht; cases ht
    · exact h
  rw [isNameB_pos s ps] at hs
  rw [isNameB_pos t pt] at ht
  by_cases h1 : nameStartB (decP s 0).1
  · rw [if_pos h1] at hs
    by_cases h2 : nameStartB (decP t 0).1
    · rw [if_pos h2] at ht
      have hp := pos_of_name s 0 ps (char_of_start _ h1)
      have hok := (decP_ok s 0 ps).1
      rw [isNameB_pos (s ++ t) (by rw [ByteArray.size_append]; omega), dec_left s t 0 ps (by omega), if_pos h1,
        name_left s t _ (decP s 0).2 (Nat.le_refl _) (by omega) hs]
      have h3 := name_right s t _ 0 (Nat.le_refl _) (Nat.zero_le _)
      rw [Nat.add_zero] at h3
      rw [h3, nameAt_eq t 0 pt, if_pos (char_of_start _ h2), Nat.zero_add]
      exact ht
    · rw [if_neg h2] at ht; cases ht
  · rw [if_neg h1] at hs; cases hs
end Go.Proofs.YtdkinamblobjpaaDoor
