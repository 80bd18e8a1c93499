/- The reference of layer 5: Reference, Unescape: what each returns; plain facts: what has been escaped is read back. -/
import Derived.Test.YtdkinamblobjpaaDoorEscB
import Derived.Test.YtdkinamblobjpaaDoorStrK
import Derived.Test.YtdkinamblobjpaaDoorTextR
namespace Go.Proofs.YtdkinamblobjpaaDoor
open Go.RowKit

/-! ### The reference of layer 5: Reference: what it returns. -/
/-- What stands ahead of the next semicolon. -/
def tw (l : List UInt8) : List UInt8 := l.takeWhile fun c => c != 59
theorem tw_cons (c : UInt8) (r : List UInt8) (h : c ≠ 59) : tw (c :: r) = c :: tw r := by unfold tw; rw [List.takeWhile_cons, if_pos (by simpa using h)]
theorem tw_semi (r : List UInt8) : tw (59 :: r) = [] := rfl
/-- The number of the rune that stands between the ampersand and the semicolon, or -1. -/
def refNum (x : List UInt8) : Int := if 1 < x.length ∧ x.getD 0 0 = 35 then (if x.getD 1 0 = 120 then numB 16 (x.drop 2) else numB 10 (x.drop 1)) else namedP x
theorem refNum_bd (x : List UInt8) : -1 ≤ refNum x ∧ refNum x ≤ 2000000 := by
  unfold refNum
  split
  · split
    · exact numB_bd 16 (by omega) _
    · exact numB_bd 10 (by omega) _
  · have := namedP_bd x; omega
/-- What Reference returns at an offset within the string at which an ampersand stands. -/
def refAt (l : List UInt8) (i : Nat) : Int × Int × Int :=
  if i + 1 + (tw (l.drop (i + 1))).length < l.length then (if isCharB (refNum (tw (l.drop (i + 1)))) then (refNum (tw (l.drop (i + 1))), ((i + 1 + (tw (l.drop (i + 1))).length + 1 : Nat) : Int), 0) else (0, 0, 12)) else (0, 0, 12)
def refP (l : List UInt8) (a : Int) : Int × Int × Int := if 0 ≤ a ∧ a < (l.length : Int) ∧ l.getD a.toNat 0 = 38 then refAt l a.toNat else (0, 0, 12)
theorem eob_eq (l : List UInt8) : ofBytes l = ofBytes l := rfl
theorem estr_ext {a b : ByteArray} (h : a.data.toList = b.data.toList) : a = b := by
  cases a; cases b; simp at h; simp [h]
theorem eext (s : ByteArray) (f k : Nat) : s.extract f k = ofBytes ((s.data.toList.drop f).take (k - f)) := by
  apply estr_ext
  rw [ofBytes_list]
  simp only [ByteArray.data_extract, Array.toList_extract, List.extract_eq_take_drop]
theorem eob_get (w : List UInt8) (i : Nat) (h : i < (ofBytes w).size) : (ofBytes w)[i]'h = w.getD i 0 := by
  rw [ofBytes_size] at h
  simp [ofBytes, ByteArray.getElem_eq_getElem_data, List.getD, h]
theorem eu8_int {a : UInt8} {n : Nat} (hn : n < 256) : a = UInt8.ofNat n ↔ (a.toNat : Int) = n := by
  constructor
  · intro h; rw [h, UInt8.toNat_ofNat']; omega
  · intro h; apply UInt8.toNat_inj.1; rw [UInt8.toNat_ofNat']; omega

/-! ### The reference of layer 5: Unescape: what it returns. -/
/-- The bytes of a rune's encoding. -/
def eb (r : Int) : List UInt8 := (encZ r).map fun n => UInt8.ofNat n.toNat
theorem eb_str (r : Int) : strOfNums (encZ r) = ofBytes (eb r) := by
  apply estr_ext
  rw [strOfNums_data, ofBytes_list]; rfl
theorem eb_len (r : Int) : (eb r).length ≤ 4 := by
  unfold eb encZ
  rw [List.length_map]
  repeat' split
  all_goals simp
theorem refAt_cases (l : List UInt8) (i : Nat) : refAt l i = (0, 0, 12) ∨ ∃ (r : Int) (j : Nat), refAt l i = (r, (j : Int), 0) ∧ i + 2 ≤ j ∧ j ≤ l.length ∧ isCharB r = true ∧ -1 ≤ r ∧ r ≤ 2000000 := by
  unfold refAt
  have hb := refNum_bd (tw (l.drop (i + 1)))
  split
  · split
    · rename_i h1 h2
      exact .inr ⟨_, _, rfl, by omega, by omega, h2, hb.1, hb.2⟩
    · exact .inl rfl
  · exact .inl rfl
/-- Unescape from an offset on, with what has been written and a bound on the number of steps. -/
def unF (l : List UInt8) : Nat → Nat → List UInt8 → List UInt8 × Int × Int
  | 0, _, out => (out, (l.length : Int), 0)
  | f + 1, i, out => if i < l.length then (if l.getD i 0 = 38 then (if (refAt l i).2.2 = 0 then unF l f (refAt l i).2.1.toNat (out ++ eb (refAt l i).1) else ([], (i : Int), (refAt l i).2.2)) else unF l f (i + 1) (out ++ [l.getD i 0])) else (out, (l.length : Int), 0)
def unP (l : List UInt8) : List UInt8 × Int × Int := unF l (l.length + 1) 0 []
theorem refP_at (l : List UInt8) (i : Nat) (h : i < l.length) (hc : l.getD i 0 = 38) : refP l (i : Int) = refAt l i := by
  unfold refP; rw [Int.toNat_natCast, if_pos ⟨by omega, by omega, hc⟩]
theorem eob_app (a b : List UInt8) : ofBytes a ++ ofBytes b = ofBytes (a ++ b) := by
  apply estr_ext
  simp [ofBytes]

/-! ### Plain facts of layer 5: what has been escaped is read back; what escaped strings do not contain; numbers with leading zeros. -/
theorem tw_app : ∀ (b r : List UInt8), (b.all fun c => c != 59) = true → tw (b ++ 59 :: r) = b
  | [], r, _ => rfl
  | c :: b, r, h => by
    rw [List.all_cons, Bool.and_eq_true] at h
    rw [List.cons_append, tw_cons _ _ (by simpa using h.1), tw_app b r h.2]
theorem refAt_ent (pre body r : List UInt8) (hb : (body.all fun c => c != 59) = true) : refAt (pre ++ 38 :: (body ++ 59 :: r)) pre.length =
    if isCharB (refNum body) then (refNum body, ((pre.length + body.length + 2 : Nat) : Int), 0) else (0, 0, 12) := by
  have hd : (pre ++ 38 :: (body ++ 59 :: r)).drop (pre.length + 1) = body ++ 59 :: r := by
    rw [← List.drop_drop, List.drop_left]; rfl
  unfold refAt
  rw [hd, tw_app body r hb, if_pos (by simp; omega), show ((pre.length + 1 + body.length + 1 : Nat) : Int) = ((pre.length + body.length + 2 : Nat) : Int) by omega]
theorem esc_cases (attr : Bool) (c : UInt8) : (escB attr c = [c] ∧ c ≠ 38) ∨ ∃ body, escB attr c = 38 :: (body ++ [59]) ∧ (body.all fun c => c != 59) = true ∧ refNum body = (c.toNat : Int) ∧ isCharB (c.toNat : Int) = true ∧ eb (c.toNat : Int) = [c] := by
  unfold escB
  have key : ∀ k : UInt8, c.toNat = k.toNat → c = k := fun k h => UInt8.toNat_inj.1 h
  by_cases h1 : c.toNat = 38
  · obtain rfl := key 38 h1
    exact .inr ⟨[97, 109, 112], by rw [if_pos h1]; rfl, by decide⟩
  rw [if_neg h1]
  by_cases h2 : c.toNat = 60
  · obtain rfl := key 60 h2
    exact .inr ⟨[108, 116], by rw [if_pos h2]; rfl, by decide⟩
  rw [if_neg h2]
  by_cases h3 : c.toNat = 62
  · obtain rfl := key 62 h3
    exact .inr ⟨[103, 116], by rw [if_pos h3]; rfl, by decide⟩
  rw [if_neg h3]
  by_cases h4 : c.toNat = 13
  · obtain rfl := key 13 h4
    exact .inr ⟨[35, 49, 51], by rw [if_pos h4]; rfl, by decide⟩
  rw [if_neg h4]
  have hn : c ≠ 38 := fun e => h1 (by rw [e]; rfl)
  by_cases h5 : (attr && c.toNat == 34) = true
  · rw [if_pos h5]
    rw [Bool.and_eq_true, beq_iff_eq] at h5
    obtain rfl := key 34 h5.2
    exact .inr ⟨[113, 117, 111, 116], rfl, by decide⟩
  rw [if_neg h5]
  by_cases h6 : (attr && c.toNat == 9) = true
  · rw [if_pos h6]
    rw [Bool.and_eq_true, beq_iff_eq] at h6
    obtain rfl := key 9 h6.2
    exact .inr ⟨[35, 57], rfl, by decide⟩
  rw [if_neg h6]
  by_cases h7 : (attr && c.toNat == 10) = true
  · rw [if_pos h7]
    rw [Bool.and_eq_true, beq_iff_eq] at h7
    obtain rfl := key 10 h7.2
    exact .inr ⟨[35, 49, 48], rfl, by decide⟩
  rw [if_neg h7]
  exact .inl ⟨rfl, hn⟩
theorem unF_esc (attr : Bool) : ∀ (rest pre : List UInt8) (f : Nat) (out : List UInt8), (escP attr rest).length < f → unF (pre ++ escP attr rest) f pre.length out = (out ++ rest, ((pre ++ escP attr rest).length : Int), 0)
  | [], pre, 0, out, h => absurd h (by omega)
  | [], pre, f + 1, out, _ => by
    rw [show escP attr [] = [] from rfl, List.append_nil, List.append_nil, unF, if_neg (by omega)]
  | c :: r, pre, 0, out, h => absurd h (by omega)
  | c :: r, pre, f + 1, out, h => by
    rw [escP_cons] at h ⊢
    rcases esc_cases attr c with ⟨he, hc⟩ | ⟨body, he, hb, hr, hi, hq⟩
    · rw [he] at h ⊢
      rw [List.length_append, List.length_cons, List.length_nil] at h
      have hg : (pre ++ ([c] ++ escP attr r)).getD pre.length 0 = c := by
        rw [List.getD_eq_getElem?_getD, List.getElem?_append_right (Nat.le_refl _), Nat.sub_self]; rfl
      have ih := unF_esc attr r (pre ++ [c]) f (out ++ [c]) (by omega)
      rw [List.append_assoc, List.length_append, List.length_cons, List.length_nil] at ih
      rw [unF, if_pos (by simp), if_neg (by rw [hg]; exact hc), hg, ih]
      simp
    · rw [he] at h ⊢
      have hL : pre ++ (38 :: (body ++ [59]) ++ escP attr r) = pre ++ 38 :: (body ++ 59 :: escP attr r) := by simp
      have hg : (pre ++ 38 :: (body ++ 59 :: escP attr r)).getD pre.length 0 = 38 := by
        rw [List.getD_eq_getElem?_getD, List.getElem?_append_right (Nat.le_refl _), Nat.sub_self]; rfl
      have hra := refAt_ent pre body (escP attr r) hb
      rw [hr, if_pos hi] at hra
      rw [List.length_append, List.length_cons, List.length_append, List.length_cons, List.length_nil] at h
      have ih := unF_esc attr r (pre ++ 38 :: (body ++ [59])) f (out ++ [c]) (by omega)
      have hpl : (pre ++ 38 :: (body ++ [59])).length = pre.length + body.length + 2 := by simp; omega
      have hpe : pre ++ 38 :: (body ++ [59]) ++ escP attr r = pre ++ 38 :: (body ++ 59 :: escP attr r) := by simp
      rw [hpl, hpe] at ih
      rw [hL, unF, if_pos (by simp), if_pos hg, hra]
      simp only [if_true, Int.toNat_natCast, hq]
      rw [ih]
      simp
theorem un_esc (attr : Bool) (l : List UInt8) : unP (escP attr l) = (l, ((escP attr l).length : Int), 0) := by
  have := unF_esc attr l [] ((escP attr l).length + 1) [] (by omega)
  rw [List.nil_append, List.length_nil] at this
  unfold unP
  rw [this]; rfl
/-- What escaped strings do not contain. -/
theorem esc_none (attr : Bool) (k : UInt8) (hk : ∀ c : UInt8, k ∉ escB attr c) : ∀ l : List UInt8, k ∉ escP attr l
  | [] => by simp [escP]
  | c :: r => by
    rw [escP_cons, List.mem_append]
    rintro (h | h)
    · exact hk c h
    · exact esc_none attr k hk r h
set_option maxRecDepth 100000 in
theorem esc_bytes : ∀ n : Fin 256, (60 ∉ escB false (UInt8.ofNat n.val) ∧ 62 ∉ escB false (UInt8.ofNat n.val) ∧ 13 ∉ escB false (UInt8.ofNat n.val)) ∧ (60 ∉ escB true (UInt8.ofNat n.val) ∧ 62 ∉ escB true (UInt8.ofNat n.val) ∧ 13 ∉ escB true (UInt8.ofNat n.val) ∧ 34 ∉ escB true (UInt8.ofNat n.val) ∧ 10 ∉ escB true (UInt8.ofNat n.val)) := by decide
theorem esc_byte (c : UInt8) : (60 ∉ escB false c ∧ 62 ∉ escB false c ∧ 13 ∉ escB false c) ∧ (60 ∉ escB true c ∧ 62 ∉ escB true c ∧ 13 ∉ escB true c ∧ 34 ∉ escB true c ∧ 10 ∉ escB true c) := by
  have := esc_bytes ⟨c.toNat, c.toNat_lt⟩
  simpa using this
theorem esc_free (l : List UInt8) : (60 ∉ escP false l ∧ 62 ∉ escP false l ∧ 13 ∉ escP false l) ∧ (60 ∉ escP true l ∧ 62 ∉ escP true l ∧ 13 ∉ escP true l ∧ 34 ∉ escP true l ∧ 10 ∉ escP true l) :=
  ⟨⟨esc_none _ _ (fun c => (esc_byte c).1.1) l, esc_none _ _ (fun c => (esc_byte c).1.2.1) l, esc_none _ _ (fun c => (esc_byte c).1.2.2) l⟩,
    esc_none _ _ (fun c => (esc_byte c).2.1) l, esc_none _ _ (fun c => (esc_byte c).2.2.1) l, esc_none _ _ (fun c => (esc_byte c).2.2.2.1) l, esc_none _ _ (fun c => (esc_byte c).2.2.2.2.1) l, esc_none _ _ (fun c => (esc_byte c).2.2.2.2.2) l⟩
end Go.Proofs.YtdkinamblobjpaaDoor
