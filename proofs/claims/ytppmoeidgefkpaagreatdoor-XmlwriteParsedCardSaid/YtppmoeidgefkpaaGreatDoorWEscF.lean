/- Packed from the texts EscF. -/
import Derived.Test.YtppmoeidgefkpaaGreatDoorWEscC
set_option maxRecDepth 100000
namespace Go.Proofs.YtppmoeidgefkpaaGreatDoor
section
open Go.RowKit
def numC (base : Int) : List UInt8 → Int → Int
 | [], n => n
 | c :: r, n => if digI (c.toNat : Int) < base then numC base r (if 1114112 < n * base + digI (c.toNat : Int) then 1114112 else n * base + digI (c.toNat : Int)) else n
def cntC (base : Int) : List UInt8 → Nat
 | [] => 0
 | c :: r => if digI (c.toNat : Int) < base then cntC base r + 1 else 0
theorem cntC_le (base : Int) : ∀ l : List UInt8, cntC base l ≤ l.length
 | [] => Nat.le_refl _
 | c :: r => by
  rw [cntC, List.length_cons]
  have := cntC_le base r
  split <;> omega
theorem numC_bd (base : Int) (hb : 0 ≤ base) : ∀ (l : List UInt8) (n : Int), 0 ≤ n → n ≤ 1114112 → 0 ≤ numC base l n ∧ numC base l n ≤ 1114112
 | [], n, h0, h1 => by rw [numC]; omega
 | c :: r, n, h0, h1 => by
  have hd := digI_bd (c.toNat : Int)
  have hm : 0 ≤ n * base := Int.mul_nonneg h0 hb
  rw [numC]
  split
  ·exact numC_bd base hb r _ (by split <;> omega) (by split <;> omega)
  ·omega
theorem digI_semi : digI ((59 : UInt8).toNat : Int) = 16 := by decide
theorem cnt_semi (base : Int) (hb : base ≤ 16) : ∀ l : List UInt8, cntC base l < l.length → l.getD (cntC base l) 0 = 59 → (tw l).length = cntC base l ∧ ∀ n : Int, numR base (tw l) n = numR base (l.take (cntC base l)) n
 | [], h, _ => by simp at h
 | c :: r, h, hg => by
  rw [cntC] at h hg ⊢
  by_cases hc : digI (c.toNat : Int) < base
  ·rw [if_pos hc] at h hg ⊢
   have h59 : c ≠ 59 := fun e => by subst e; rw [digI_semi] at hc; omega
   rw [List.length_cons] at h
   rw [List.getD_cons_succ] at hg
   obtain ⟨h1, h2⟩ := cnt_semi base hb r (by omega) hg
   rw [tw_cons _ _ h59, List.length_cons, h1, List.take_succ_cons]
   refine ⟨rfl, fun n => ?_⟩
   rw [numR, numR, if_neg (Int.not_le.2 hc), if_neg (Int.not_le.2 hc), h2]
  ·rw [if_neg hc] at h hg ⊢
   rw [List.getD_cons_zero] at hg
   subst hg
   exact ⟨rfl, fun n => rfl⟩
theorem numR_all (base : Int) (hb : base = 10 ∨ base = 16) : ∀ (l : List UInt8) (n : Int), numR base (tw l) n ≠ -1 → cntC base l = (tw l).length
 | [], _, _ => rfl
 | c :: r, n, hn => by
  by_cases hc : c = 59
  ·subst hc
   rw [tw_semi, cntC, if_neg (by rw [digI_semi]; omega)]
   rfl
  ·rw [tw_cons _ _ hc] at hn ⊢
   rw [numR] at hn
   by_cases hd : base ≤ digI (c.toNat : Int)
   ·rw [if_pos hd] at hn; exact absurd rfl hn
   ·rw [if_neg hd] at hn
    rw [cntC, if_pos (by omega), List.length_cons, numR_all base hb r _ hn]
theorem tw_end : ∀ l : List UInt8, (tw l).length < l.length → l.getD (tw l).length 0 = 59
 | [], h => by simp at h
 | c :: r, h => by
  by_cases hc : c = 59
  ·subst hc; rfl
  ·rw [tw_cons _ _ hc] at h ⊢
   rw [List.length_cons, List.length_cons] at h
   rw [List.length_cons, List.getD_cons_succ, tw_end r (by omega)]
def simN (a b : Int) : Prop := (a = b ∧ 0 ≤ a ∧ a ≤ 1114111) ∨ (a = 1114112 ∧ 1114112 ≤ b ∧ b ≤ 2000000)
theorem simN_char {a b : Int} (h : simN a b) : isCharB a = isCharB b ∧ (isCharB a = true → a = b) := by
 rcases h with ⟨rfl, _, _⟩ | ⟨rfl, h1, h2⟩
 ·exact ⟨rfl, fun _ => rfl⟩
 ·have e1 : isCharB 1114112 = false := by decide
  have e2 : isCharB b = false := by unfold isCharB; exact decide_eq_false (by omega)
  rw [e1, e2]
  exact ⟨rfl, fun h => by cases h⟩
theorem sim_step (base d n m : Int) (hb : base = 10 ∨ base = 16) (h : simN n m) (hd : 0 ≤ d ∧ d < base) : simN (if 1114112 < n * base + d then 1114112 else n * base + d) (if 2000000 < m * base + d then 2000000 else m * base + d) := by
 unfold simN at *
 rcases hb with rfl | rfl
 ·split <;> split <;> omega
 ·split <;> split <;> omega
theorem num_sim (base : Int) (hb : base = 10 ∨ base = 16) : ∀ (l : List UInt8) (n m : Int), simN n m → cntC base l = (tw l).length → simN (numC base l n) (numR base (tw l) m)
 | [], n, m, h, _ => h
 | c :: r, n, m, h, hc => by
  by_cases h59 : c = 59
  ·subst h59
   rw [tw_semi, numC, numR, if_neg (by rw [digI_semi]; omega)]
   exact h
  ·rw [tw_cons _ _ h59, List.length_cons, cntC] at hc
   by_cases hd : digI (c.toNat : Int) < base
   ·rw [if_pos hd] at hc
    have hd0 := digI_bd (c.toNat : Int)
    rw [tw_cons _ _ h59, numC, numR, if_pos hd, if_neg (Int.not_le.2 hd)]
    exact num_sim base hb r _ _ (sim_step base _ n m hb h ⟨hd0.1, hd⟩) (by omega)
   ·rw [if_neg hd] at hc
    exact absurd hc (by omega)
def tailC (base : Int) (k : Nat) (m : List UInt8) : Int × Nat := if cntC base m ≠ 0 ∧ (cntC base m < m.length ∧ m.getD (cntC base m) 0 = 59) ∧ isCharB (numC base m 0) = true then (numC base m 0, k + cntC base m + 1) else (0, 0)
theorem tail_eq (base : Int) (hb : base = 10 ∨ base = 16) (k : Nat) (m : List UInt8) : tailC base k m = if (tw m).length < m.length ∧ isCharB (numB base (tw m)) = true then (numB base (tw m), k + (tw m).length + 1) else (0, 0) := by
 have h00 : simN 0 0 := .inl ⟨rfl, by omega, by omega⟩
 unfold tailC
 by_cases hC : cntC base m ≠ 0 ∧ (cntC base m < m.length ∧ m.getD (cntC base m) 0 = 59) ∧ isCharB (numC base m 0) = true
 ·obtain ⟨h1, ⟨h2, h3⟩, h4⟩ := hC
  have hl := (cnt_semi base (by omega) m h2 h3).1
  have hs := simN_char (num_sim base hb m 0 0 h00 hl.symm)
  have hB : numB base (tw m) = numR base (tw m) 0 := by
   unfold numB
   rw [if_neg]
   rw [List.isEmpty_iff]
   intro e
   rw [e] at hl
   exact h1 hl.symm
  rw [if_pos ⟨h1, ⟨h2, h3⟩, h4⟩, hB, ← hs.2 h4, hl, if_pos ⟨h2, h4⟩]
 ·rw [if_neg hC]
  rw [if_neg]
  rintro ⟨h1, h2⟩
  apply hC
  have hne : tw m ≠ [] := fun e => by
   rw [e, show numB base [] = -1 from rfl] at h2
   revert h2; decide
  have hB : numB base (tw m) = numR base (tw m) 0 := by
   unfold numB
   rw [if_neg]
   rw [List.isEmpty_iff]
   exact hne
  rw [hB] at h2
  have hn1 : numR base (tw m) 0 ≠ -1 := fun e => by rw [e] at h2; revert h2; decide
  have hl := numR_all base hb m 0 hn1
  have hs := simN_char (num_sim base hb m 0 0 h00 hl)
  refine ⟨?_, ⟨?_, ?_⟩, ?_⟩
  ·rw [hl]
   intro e
   exact hne (List.eq_nil_of_length_eq_zero e)
  ·rw [hl]; exact h1
  ·rw [hl]; exact tw_end m h1
  ·rw [hs.1]; exact h2
theorem pre_semi : ∀ (b r : List UInt8), (b.all fun c => c != 59) = true → ((b ++ [59]).isPrefixOf r = true ↔ tw r = b ∧ b.length < r.length)
 | [], [], _ => by simp
 | [], c :: r, _ => by
  rw [List.nil_append]
  by_cases hc : c = 59
  ·subst hc; simp [tw_semi]
  ·rw [tw_cons _ _ hc]; simp; exact fun e => hc e.symm
 | b :: bs, [], _ => by simp
 | b :: bs, c :: r, h => by
  rw [List.all_cons, Bool.and_eq_true] at h
  have hb : b ≠ 59 := by simpa using h.1
  have ih := pre_semi bs r h.2
  rw [List.cons_append, List.isPrefixOf_cons_cons, Bool.and_eq_true, ih]
  by_cases hc : c = 59
  ·subst hc
   rw [tw_semi]
   constructor
   ·rintro ⟨h1, _⟩; exact absurd (by simpa using h1) hb
   ·rintro ⟨h1, _⟩; cases h1
  ·rw [tw_cons _ _ hc]
   constructor
   ·rintro ⟨h1, h2, h3⟩
    have : b = c := by simpa using h1
    subst this
    exact ⟨by rw [h2], by simpa using h3⟩
   ·rintro ⟨h1, h2⟩
    obtain ⟨rfl, rfl⟩ := List.cons.inj h1
    exact ⟨by simp, rfl, by simpa using h2⟩
def refNames : List (List UInt8 × Int) := [([38, 108, 116, 59], 60), ([38, 103, 116, 59], 62), ([38, 97, 109, 112, 59], 38), ([38, 97, 112, 111, 115, 59], 39), ([38, 113, 117, 111, 116, 59], 34)]
def nameIn (l : List UInt8) : List (List UInt8 × Int) → Int × Nat
 | [] => (0, 0)
 | x :: r => if x.1.isPrefixOf l then (x.2, x.1.length) else nameIn l r
def numericC (l : List UInt8) : Int × Nat := if [38, 35, 120].isPrefixOf l then tailC 16 3 (l.drop 3) else if [38, 35].isPrefixOf l then tailC 10 2 (l.drop 2) else (0, 0)
def refC (l : List UInt8) : Int × Nat := if (nameIn l refNames).2 = 0 then numericC l else nameIn l refNames
theorem tailC_bd (base : Int) (hb : base = 10 ∨ base = 16) (k : Nat) (m : List UInt8) : 0 ≤ (tailC base k m).1 ∧ (tailC base k m).1 ≤ 1114112 ∧ (tailC base k m).2 ≤ k + m.length := by
 unfold tailC
 have h1 := numC_bd base (by omega) m 0 (by omega) (by omega)
 split
 ·rename_i h; exact ⟨h1.1, h1.2, by have := h.2.1.1; simp only; omega⟩
 ·exact ⟨by decide, by decide, Nat.zero_le _⟩
theorem numericC_bd (l : List UInt8) : 0 ≤ (numericC l).1 ∧ (numericC l).1 ≤ 1114112 ∧ (numericC l).2 ≤ l.length := by
 unfold numericC
 split
 ·rename_i h
  obtain ⟨t, rfl⟩ := List.isPrefixOf_iff_prefix.1 h
  obtain ⟨h1, h2, h3⟩ := tailC_bd 16 (.inr rfl) 3 (([38, 35, 120] ++ t).drop 3)
  refine ⟨h1, h2, ?_⟩
  rw [List.length_drop] at h3
  simp at h3 ⊢; omega
 ·split
  ·rename_i h
   obtain ⟨t, rfl⟩ := List.isPrefixOf_iff_prefix.1 h
   obtain ⟨h1, h2, h3⟩ := tailC_bd 10 (.inl rfl) 2 (([38, 35] ++ t).drop 2)
   refine ⟨h1, h2, ?_⟩
   rw [List.length_drop] at h3
   simp at h3 ⊢; omega
  ·exact ⟨by decide, by decide, Nat.zero_le _⟩
theorem nameIn_bd (l : List UInt8) : ∀ ns : List (List UInt8 × Int), (∀ x ∈ ns, 0 ≤ x.2 ∧ x.2 ≤ 62) → 0 ≤ (nameIn l ns).1 ∧ (nameIn l ns).1 ≤ 62 ∧ (nameIn l ns).2 ≤ l.length
 | [], _ => by rw [nameIn]; exact ⟨by decide, by decide, Nat.zero_le _⟩
 | x :: r, h => by
  rw [nameIn]
  split
  ·rename_i hp
   have := h x (by simp)
   exact ⟨this.1, this.2, (List.isPrefixOf_iff_prefix.1 hp).length_le⟩
  ·exact nameIn_bd l r fun y hy => h y (by simp [hy])
theorem names_bd (l : List UInt8) : 0 ≤ (nameIn l refNames).1 ∧ (nameIn l refNames).1 ≤ 62 ∧ (nameIn l refNames).2 ≤ l.length := nameIn_bd l _ (by decide)
theorem no_amp (c : UInt8) (r : List UInt8) (h : c ≠ 38) : refC (c :: r) = (0, 0) := by
 have hp : ∀ p : List UInt8, (38 :: p).isPrefixOf (c :: r) = false := fun p => by
  rw [List.isPrefixOf_cons_cons, show (38 == c) = false by simpa using fun e => h e.symm]; rfl
 unfold refC refNames
 simp only [nameIn, numericC, hp, Bool.false_eq_true, if_false, if_true]
theorem refC_amp (r : List UInt8) : refC (38 :: r) = if (tw r).length < r.length ∧ isCharB (refNum (tw r)) = true then (refNum (tw r), (tw r).length + 2) else (0, 0) := by
 have hp : ∀ p : List UInt8, (38 :: p).isPrefixOf (38 :: r) = p.isPrefixOf r := fun p => by rw [List.isPrefixOf_cons_cons]; rfl
 have q1 := pre_semi [108, 116] r (by decide)
 have q2 := pre_semi [103, 116] r (by decide)
 have q3 := pre_semi [97, 109, 112] r (by decide)
 have q4 := pre_semi [97, 112, 111, 115] r (by decide)
 have q5 := pre_semi [113, 117, 111, 116] r (by decide)
 simp only [List.cons_append, List.nil_append] at q1 q2 q3 q4 q5
 unfold refC refNames
 simp only [nameIn, hp]
 by_cases c1 : tw r = [108, 116] ∧ [108, 116].length < r.length
 ·rw [if_pos (q1.2 c1), if_neg (by decide), c1.1, if_pos ⟨c1.2, by decide⟩]; rfl
 by_cases c2 : tw r = [103, 116] ∧ [103, 116].length < r.length
 ·rw [if_neg (fun h => c1 (q1.1 h)), if_pos (q2.2 c2), if_neg (by decide), c2.1, if_pos ⟨c2.2, by decide⟩]; rfl
 by_cases c3 : tw r = [97, 109, 112] ∧ [97, 109, 112].length < r.length
 ·rw [if_neg (fun h => c1 (q1.1 h)), if_neg (fun h => c2 (q2.1 h)), if_pos (q3.2 c3), if_neg (by decide), c3.1, if_pos ⟨c3.2, by decide⟩]; rfl
 by_cases c4 : tw r = [97, 112, 111, 115] ∧ [97, 112, 111, 115].length < r.length
 ·rw [if_neg (fun h => c1 (q1.1 h)), if_neg (fun h => c2 (q2.1 h)), if_neg (fun h => c3 (q3.1 h)), if_pos (q4.2 c4), if_neg (by decide), c4.1, if_pos ⟨c4.2, by decide⟩]; rfl
 by_cases c5 : tw r = [113, 117, 111, 116] ∧ [113, 117, 111, 116].length < r.length
 ·rw [if_neg (fun h => c1 (q1.1 h)), if_neg (fun h => c2 (q2.1 h)), if_neg (fun h => c3 (q3.1 h)), if_neg (fun h => c4 (q4.1 h)), if_pos (q5.2 c5), if_neg (by decide), c5.1, if_pos ⟨c5.2, by decide⟩]; rfl
 rw [if_neg (fun h => c1 (q1.1 h)), if_neg (fun h => c2 (q2.1 h)), if_neg (fun h => c3 (q3.1 h)), if_neg (fun h => c4 (q4.1 h)), if_neg (fun h => c5 (q5.1 h)), if_pos rfl]
 have hnm : (tw r).length < r.length → namedP (tw r) = -1 := fun hl => by
  unfold namedP
  rw [if_neg (fun e => c1 ⟨e, by rw [e] at hl; exact hl⟩), if_neg (fun e => c2 ⟨e, by rw [e] at hl; exact hl⟩), if_neg (fun e => c3 ⟨e, by rw [e] at hl; exact hl⟩), if_neg (fun e => c4 ⟨e, by rw [e] at hl; exact hl⟩), if_neg (fun e => c5 ⟨e, by rw [e] at hl; exact hl⟩)]
 clear c1 c2 c3 c4 c5 q1 q2 q3 q4 q5
 unfold numericC
 rw [hp, hp]
 match r, hnm with
 | [], _ => rfl
 | a :: r, hnm =>
  by_cases ha : a = 35
  ·subst ha
   have hA : ([35] : List UInt8).isPrefixOf (35 :: r) = true := by rw [List.isPrefixOf_cons_cons]; simp
   have hA2 : ([35, 120] : List UInt8).isPrefixOf (35 :: r) = [120].isPrefixOf r := by rw [List.isPrefixOf_cons_cons]; simp
   rw [hA, hA2, if_pos rfl, tw_cons _ _ (by decide)]
   match r, hnm with
   | [], hnm => rfl
   | b :: m, hnm =>
    by_cases hb : b = 120
    ·subst hb
     rw [if_pos (by rw [List.isPrefixOf_cons_cons]; simp), tw_cons _ _ (by decide)]
     change tailC 16 3 m = _
     rw [tail_eq 16 (.inr rfl)]
     simp only [List.length_cons]
     have e : refNum (35 :: 120 :: tw m) = numB 16 (tw m) := rfl
     rw [e]
     by_cases h : (tw m).length < m.length ∧ isCharB (numB 16 (tw m)) = true
     ·rw [if_pos h, if_pos ⟨by omega, h.2⟩, show 3 + (tw m).length + 1 = (tw m).length + 1 + 1 + 2 by omega]
     ·rw [if_neg h, if_neg (fun q => h ⟨by omega, q.2⟩)]
    ·rw [if_neg (by rw [List.isPrefixOf_cons_cons]; simp; exact fun e => hb e.symm)]
     change tailC 10 2 (b :: m) = _
     rw [tail_eq 10 (.inl rfl)]
     simp only [List.length_cons]
     have e : refNum (35 :: tw (b :: m)) = numB 10 (tw (b :: m)) := by
      by_cases h59 : b = 59
      ·subst h59; rfl
      ·rw [tw_cons _ _ h59]
       unfold refNum
       rw [if_pos ⟨by simp, rfl⟩, if_neg (by simpa using hb)]; rfl
     rw [e]
     by_cases h : (tw (b :: m)).length < m.length + 1 ∧ isCharB (numB 10 (tw (b :: m))) = true
     ·rw [if_pos h, if_pos ⟨by omega, h.2⟩, show 2 + (tw (b :: m)).length + 1 = (tw (b :: m)).length + 1 + 2 by omega]
     ·rw [if_neg h, if_neg (fun q => h ⟨by omega, q.2⟩)]
  ·have h1 : ([35] : List UInt8).isPrefixOf (a :: r) = false := by rw [List.isPrefixOf_cons_cons]; simp; exact fun e => ha e.symm
   have h2 : ([35, 120] : List UInt8).isPrefixOf (a :: r) = false := by rw [List.isPrefixOf_cons_cons, show ((35 : UInt8) == a) = false by simpa using fun e => ha e.symm]; rfl
   rw [h1, h2, if_neg (by decide), if_neg (by decide), if_neg]
   rintro ⟨hl, hc⟩
   have hr : refNum (tw (a :: r)) = namedP (tw (a :: r)) := by
    unfold refNum
    rw [if_neg]
    rintro ⟨_, h⟩
    by_cases h59 : a = 59
    ·subst h59; cases h
    ·rw [tw_cons _ _ h59] at h; exact ha h
   rw [hr, hnm hl] at hc
   revert hc; decide
theorem refC_ref (L : List UInt8) (i : Nat) (hi : i < L.length) : refP L (i : Int) = if (refC (L.drop i)).2 = 0 then (0, 0, 12) else ((refC (L.drop i)).1, ((i + (refC (L.drop i)).2 : Nat) : Int), 0) := by
 have hg : L.getD i 0 = L[i] := by rw [List.getD_eq_getElem?_getD, List.getElem?_eq_getElem hi]; rfl
 rw [List.drop_eq_getElem_cons hi]
 by_cases hc : L[i] = 38
 ·unfold refP
  rw [Int.toNat_natCast, if_pos ⟨by omega, by omega, by rw [hg]; exact hc⟩, hc, refC_amp]
  unfold refAt
  rw [List.length_drop]
  by_cases h1 : (tw (L.drop (i + 1))).length < L.length - (i + 1)
  ·rw [if_pos (by omega)]
   by_cases h2 : isCharB (refNum (tw (L.drop (i + 1)))) = true
   ·rw [if_pos h2, if_pos (⟨h1, h2⟩ : _ ∧ _)]
    simp only
    rw [if_neg (by omega), show i + 1 + (tw (L.drop (i + 1))).length + 1 = i + ((tw (L.drop (i + 1))).length + 2) by omega]
   ·rw [if_neg h2, if_neg (c := _ ∧ _) (fun h => h2 h.2)]; rfl
  ·rw [if_neg (by omega), if_neg (c := _ ∧ _) (fun h => h1 h.1)]; rfl
 ·rw [no_amp _ _ hc, if_pos rfl]
  unfold refP
  rw [Int.toNat_natCast, if_neg (fun h => hc (by rw [← hg]; exact h.2.2))]
def repB (attr : Bool) (c : UInt8) : List UInt8 :=
 if attr && c.toNat == 34 then [38, 113, 117, 111, 116, 59] else if attr && c.toNat == 9 then [38, 35, 57, 59] else if attr && c.toNat == 10 then [38, 35, 49, 48, 59]
 else if c.toNat = 38 then [38, 97, 109, 112, 59] else if c.toNat = 60 then [38, 108, 116, 59] else if c.toNat = 62 then [38, 103, 116, 59] else if c.toNat = 13 then [38, 35, 49, 51, 59] else []
theorem esc_rep_all : ∀ (attr : Bool) (n : Fin 256), escB attr (UInt8.ofNat n.val) = if repB attr (UInt8.ofNat n.val) = [] then [UInt8.ofNat n.val] else repB attr (UInt8.ofNat n.val) := by decide
theorem esc_rep (attr : Bool) (c : UInt8) : escB attr c = if repB attr c = [] then [c] else repB attr c := by
 have := esc_rep_all attr ⟨c.toNat, c.toNat_lt⟩
 simpa using this
theorem repB_len (attr : Bool) (c : UInt8) : (repB attr c).length ≤ 6 := by
 unfold repB
 repeat' split
 all_goals simp
end
end Go.Proofs.YtppmoeidgefkpaaGreatDoor
