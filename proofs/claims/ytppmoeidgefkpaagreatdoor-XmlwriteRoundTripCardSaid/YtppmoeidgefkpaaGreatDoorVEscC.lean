/- Packed from the texts EscC. -/
import Derived.Test.YtppmoeidgefkpaaGreatDoorVEscB
import Derived.Test.YtppmoeidgefkpaaGreatDoorVStrK
import Derived.Test.YtppmoeidgefkpaaGreatDoorVTextR
section
namespace Go.Proofs.YtppmoeidgefkpaaGreatDoor
open Go.RowKit
def tw (l : List UInt8) : List UInt8 := l.takeWhile fun c => c != 59
theorem tw_cons (c : UInt8) (r : List UInt8) (h : c ≠ 59) : tw (c :: r) = c :: tw r := by unfold tw; rw [List.takeWhile_cons, if_pos (by simpa using h)]
theorem tw_semi (r : List UInt8) : tw (59 :: r) = [] := rfl
def refNum (x : List UInt8) : Int := if 1 < x.length ∧ x.getD 0 0 = 35 then (if x.getD 1 0 = 120 then numB 16 (x.drop 2) else numB 10 (x.drop 1)) else namedP x
theorem refNum_bd (x : List UInt8) : -1 ≤ refNum x ∧ refNum x ≤ 2000000 := by
  unfold refNum
  split
  · split
    · exact numB_bd 16 (by omega) _
    · exact numB_bd 10 (by omega) _
  · have := namedP_bd x; omega
def refAt (l : List UInt8) (i : Nat) : Int × Int × Int :=
  if i + 1 + (tw (l.drop (i + 1))).length < l.length then (if isCharB (refNum (tw (l.drop (i + 1)))) then (refNum (tw (l.drop (i + 1))), ((i + 1 + (tw (l.drop (i + 1))).length + 1 : Nat) : Int), 0) else (0, 0, 12)) else (0, 0, 12)
def refP (l : List UInt8) (a : Int) : Int × Int × Int := if 0 ≤ a ∧ a < (l.length : Int) ∧ l.getD a.toNat 0 = 38 then refAt l a.toNat else (0, 0, 12)
theorem estr_ext {a b : ByteArray} (h : a.data.toList = b.data.toList) : a = b := by
  cases a; cases b; simp at h; simp [h]
theorem eext (s : ByteArray) (f k : Nat) : s.extract f k = ofBytes ((s.data.toList.drop f).take (k - f)) := by
  apply estr_ext
  rw [ofBytes_list]
  simp only [ByteArray.data_extract, Array.toList_extract, List.extract_eq_take_drop]
def eb (r : Int) : List UInt8 := (encZ r).map fun n => UInt8.ofNat n.toNat
theorem eb_len (r : Int) : (eb r).length ≤ 4 := by
  unfold eb encZ
  rw [List.length_map]
  repeat' split
  all_goals simp
theorem refAt_cases (l : List UInt8) (i : Nat) : refAt l i = (0, 0, 12) ∨ ∃ (r : Int) (j : Nat), refAt l i = (r, (j : Int), 0) ∧ i + 2 ≤ j ∧ j ≤ l.length ∧ isCharB r = true ∧ -1 ≤ r ∧ r ≤ 2000000 := by
  unfold refAt
  have hb := refNum_bd (tw (l.drop (i + 1)))
  split
  · split
    · rename_i h1 h2
      exact .inr ⟨_, _, rfl, by omega, by omega, h2, hb.1, hb.2⟩
    · exact .inl rfl
  · exact .inl rfl
theorem refP_at (l : List UInt8) (i : Nat) (h : i < l.length) (hc : l.getD i 0 = 38) : refP l (i : Int) = refAt l i := by
  unfold refP; rw [Int.toNat_natCast, if_pos ⟨by omega, by omega, hc⟩]
theorem tw_app : ∀ (b r : List UInt8), (b.all fun c => c != 59) = true → tw (b ++ 59 :: r) = b
  | [], r, _ => rfl
  | c :: b, r, h => by
    rw [List.all_cons, Bool.and_eq_true] at h
    rw [List.cons_append, tw_cons _ _ (by simpa using h.1), tw_app b r h.2]
theorem refAt_ent (pre body r : List UInt8) (hb : (body.all fun c => c != 59) = true) : refAt (pre ++ 38 :: (body ++ 59 :: r)) pre.length =
    if isCharB (refNum body) then (refNum body, ((pre.length + body.length + 2 : Nat) : Int), 0) else (0, 0, 12) := by
  have hd : (pre ++ 38 :: (body ++ 59 :: r)).drop (pre.length + 1) = body ++ 59 :: r := by
    rw [← List.drop_drop, List.drop_left]; rfl
  unfold refAt
  rw [hd, tw_app body r hb, if_pos (by simp; omega), show ((pre.length + 1 + body.length + 1 : Nat) : Int) = ((pre.length + body.length + 2 : Nat) : Int) by omega]
theorem esc_cases (attr : Bool) (c : UInt8) : (escB attr c = [c] ∧ c ≠ 38) ∨ ∃ body, escB attr c = 38 :: (body ++ [59]) ∧ (body.all fun c => c != 59) = true ∧ refNum body = (c.toNat : Int) ∧ isCharB (c.toNat : Int) = true ∧ eb (c.toNat : Int) = [c] := by
  unfold escB
  have key : ∀ k : UInt8, c.toNat = k.toNat → c = k := fun k h => UInt8.toNat_inj.1 h
  by_cases h1 : c.toNat = 38
  · obtain rfl := key 38 h1
    exact .inr ⟨[97, 109, 112], by rw [if_pos h1]; rfl, by decide⟩
  rw [if_neg h1]
  by_cases h2 : c.toNat = 60
  · obtain rfl := key 60 h2
    exact .inr ⟨[108, 116], by rw [if_pos h2]; rfl, by decide⟩
  rw [if_neg h2]
  by_cases h3 : c.toNat = 62
  · obtain rfl := key 62 h3
    exact .inr ⟨[103, 116], by rw [if_pos h3]; rfl, by decide⟩
  rw [if_neg h3]
  by_cases h4 : c.toNat = 13
  · obtain rfl := key 13 h4
    exact .inr ⟨[35, 49, 51], by rw [if_pos h4]; rfl, by decide⟩
  rw [if_neg h4]
  have hn : c ≠ 38 := fun e => h1 (by rw [e]; rfl)
  by_cases h5 : (attr && c.toNat == 34) = true
  · rw [if_pos h5]
    rw [Bool.and_eq_true, beq_iff_eq] at h5
    obtain rfl := key 34 h5.2
    exact .inr ⟨[113, 117, 111, 116], rfl, by decide⟩
  rw [if_neg h5]
  by_cases h6 : (attr && c.toNat == 9) = true
  · rw [if_pos h6]
    rw [Bool.and_eq_true, beq_iff_eq] at h6
    obtain rfl := key 9 h6.2
    exact .inr ⟨[35, 57], rfl, by decide⟩
  rw [if_neg h6]
  by_cases h7 : (attr && c.toNat == 10) = true
  · rw [if_pos h7]
    rw [Bool.and_eq_true, beq_iff_eq] at h7
    obtain rfl := key 10 h7.2
    exact .inr ⟨[35, 49, 48], rfl, by decide⟩
  rw [if_neg h7]
  exact .inl ⟨rfl, hn⟩
theorem esc_none (attr : Bool) (k : UInt8) (hk : ∀ c : UInt8, k ∉ escB attr c) : ∀ l : List UInt8, k ∉ escP attr l
  | [] => by simp [escP]
  | c :: r => by
    rw [escP_cons, List.mem_append]
    rintro (h | h)
    · exact hk c h
    · exact esc_none attr k hk r h
set_option maxRecDepth 100000 in
theorem esc_bytes : ∀ n : Fin 256, (60 ∉ escB false (UInt8.ofNat n.val) ∧ 62 ∉ escB false (UInt8.ofNat n.val) ∧ 13 ∉ escB false (UInt8.ofNat n.val)) ∧ (60 ∉ escB true (UInt8.ofNat n.val) ∧ 62 ∉ escB true (UInt8.ofNat n.val) ∧ 13 ∉ escB true (UInt8.ofNat n.val) ∧ 34 ∉ escB true (UInt8.ofNat n.val) ∧ 10 ∉ escB true (UInt8.ofNat n.val)) := by decide
theorem esc_byte (c : UInt8) : (60 ∉ escB false c ∧ 62 ∉ escB false c ∧ 13 ∉ escB false c) ∧ (60 ∉ escB true c ∧ 62 ∉ escB true c ∧ 13 ∉ escB true c ∧ 34 ∉ escB true c ∧ 10 ∉ escB true c) := by
  have := esc_bytes ⟨c.toNat, c.toNat_lt⟩
  simpa using this
theorem esc_free (l : List UInt8) : (60 ∉ escP false l ∧ 62 ∉ escP false l ∧ 13 ∉ escP false l) ∧ (60 ∉ escP true l ∧ 62 ∉ escP true l ∧ 13 ∉ escP true l ∧ 34 ∉ escP true l ∧ 10 ∉ escP true l) :=
  ⟨⟨esc_none _ _ (fun c => (esc_byte c).1.1) l, esc_none _ _ (fun c => (esc_byte c).1.2.1) l, esc_none _ _ (fun c => (esc_byte c).1.2.2) l⟩,
    esc_none _ _ (fun c => (esc_byte c).2.1) l, esc_none _ _ (fun c => (esc_byte c).2.2.1) l, esc_none _ _ (fun c => (esc_byte c).2.2.2.1) l, esc_none _ _ (fun c => (esc_byte c).2.2.2.2.1) l, esc_none _ _ (fun c => (esc_byte c).2.2.2.2.2) l⟩
end Go.Proofs.YtppmoeidgefkpaaGreatDoor
end
