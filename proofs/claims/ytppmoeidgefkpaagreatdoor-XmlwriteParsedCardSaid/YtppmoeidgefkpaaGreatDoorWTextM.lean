/- Packed from the texts TextM. -/
import Derived.Test.YtppmoeidgefkpaaGreatDoorWTextE
import Derived.Test.YtppmoeidgefkpaaGreatDoorWTextT
namespace Go.Proofs.YtppmoeidgefkpaaGreatDoor
section
open Go.RowKit Go.Lib
theorem get_left (s t : ByteArray) (i : Nat) (h : i < s.size) : (s ++ t).get! i = s.get! i := by
 rw [Proofs.Utf8W.get!_of_lt _ i (by rw [ByteArray.size_append]; omega), Proofs.Utf8W.get!_of_lt _ i h]
 exact ByteArray.getElem_append_left h
theorem get_right (s t : ByteArray) (j : Nat) : (s ++ t).get! (s.size + j) = t.get! j := by
 have out : ∀ (u : ByteArray) (k : Nat), ¬ k < u.size → u.get! k = default := fun u k hk => by
  cases u with
  | mk d => exact getElem!_neg d k hk
 by_cases h : j < t.size
 ·rw [Proofs.Utf8W.get!_of_lt _ _ (by rw [ByteArray.size_append]; omega), Proofs.Utf8W.get!_of_lt _ j h]
  rw [ByteArray.getElem_append_right (by omega)]
  congr 1
  omega
 ·rw [out _ _ (by rw [ByteArray.size_append]; omega), out _ _ h]
theorem dec_right (s t : ByteArray) (j : Nat) : decP (s ++ t) (s.size + j) = decP t j := by
 unfold decP
 rw [dec_bytes, dec_bytes]
 have hz : (s ++ t).size - (s.size + j) = t.size - j := by rw [ByteArray.size_append]; omega
 rw [hz, get_right, Nat.add_assoc, get_right, Nat.add_assoc, get_right, Nat.add_assoc, get_right]
theorem byteZ_left (s t : ByteArray) (i : Nat) (h : i < s.size) : byteZ (s ++ t) i = byteZ s i := by unfold byteZ; rw [get_left s t i h]
theorem accZ_left (s t : ByteArray) (i : Nat) (k : Int) : ∀ j, i + j < s.size → accZ (s ++ t) i k j = accZ s i k j
 | 0, h => by rw [accZ, accZ, byteZ_left s t i (by omega)]
 | j + 1, h => by rw [accZ, accZ, accZ_left s t i k j (by omega), byteZ_left s t _ (by omega)]
theorem bytesZ_left (s t : ByteArray) (i k : Nat) (h : i + k ≤ s.size) : bytesZ (s ++ t) i k = bytesZ s i k := by
 unfold bytesZ
 apply List.map_congr_left
 intro j hj
 have := List.mem_range.1 hj
 exact byteZ_left s t _ (by omega)
theorem hit_left (s t : ByteArray) (i k : Nat) (hk : 1 ≤ k) (h : i + k ≤ s.size) : hitB (s ++ t) i k = hitB s i k := by
 rw [Bool.eq_iff_iff, hit_iff _ i k (by rw [ByteArray.size_append]; omega), hit_iff s i k h, bytesZ_left s t i k h, accZ_left s t i k (k - 1) (by omega)]
theorem dec_left (s t : ByteArray) (i : Nat) (hi : i < s.size) (hm : (decP s i).2 ≠ 0) : decP (s ++ t) i = decP s i := by
 have hex : ∃ k, 1 ≤ k ∧ k ≤ 4 ∧ i + k ≤ s.size ∧ hitB s i k = true := by
  apply Classical.byContradiction
  intro hno
  apply hm
  rw [dec_miss s i hi fun k h1 h2 h3 => by
   cases hb : hitB s i k
   ·rfl
   ·exact absurd ⟨k, h1, h2, h3, hb⟩ hno]
 obtain ⟨k, h1, h2, h3, hb⟩ := hex
 have a1 := dec_hit s i k h1 h2 h3 hb
 have a2 := dec_hit (s ++ t) i k h1 h2 (by rw [ByteArray.size_append]; omega) (by rw [hit_left s t i k h1 h3]; exact hb)
 rw [accZ_left s t i k (k - 1) (by omega)] at a2
 apply Prod.ext
 ·omega
 ·rw [a1.2, a2.2]
theorem chk_left (s t : ByteArray) : ∀ f i, s.size - i ≤ f → i ≤ s.size → (chkAt s i).2 = 0 → chkAt (s ++ t) i = chkAt (s ++ t) s.size
 | 0, i, h, hi, _ => by rw [show i = s.size by omega]
 | f + 1, i, h, hi, hc => by
  by_cases hlt : i < s.size
  ·rw [chkAt_eq s i hlt] at hc
   by_cases h0 : (decP s i).2 = 0
   ·rw [if_pos h0] at hc; simp at hc
   ·rw [if_neg h0] at hc
    by_cases hch : isCharB (decP s i).1
    ·rw [if_pos hch] at hc
     have hok := (decP_ok s i hlt).1
     rw [chkAt_eq (s ++ t) i (by rw [ByteArray.size_append]; omega), dec_left s t i hlt h0, if_neg h0, if_pos hch]
     exact chk_left s t f _ (by omega) hok hc
    ·rw [if_neg hch] at hc; simp at hc
  ·rw [show i = s.size by omega]
theorem chk_right (s t : ByteArray) : ∀ f j, t.size - j ≤ f → j ≤ t.size → chkAt (s ++ t) (s.size + j) = (s.size + (chkAt t j).1, (chkAt t j).2)
 | 0, j, h, hj => by
  rw [chkAt_end t j (by omega), chkAt_end _ _ (by rw [ByteArray.size_append]; omega)]
 | f + 1, j, h, hj => by
  by_cases hlt : j < t.size
  ·rw [chkAt_eq t j hlt, chkAt_eq (s ++ t) (s.size + j) (by rw [ByteArray.size_append]; omega), dec_right]
   by_cases h0 : (decP t j).2 = 0
   ·rw [if_pos h0, if_pos h0]
   ·rw [if_neg h0, if_neg h0]
    by_cases hch : isCharB (decP t j).1
    ·rw [if_pos hch, if_pos hch, Nat.add_assoc]
     exact chk_right s t f _ (by omega) (decP_ok t j hlt).1
    ·rw [if_neg hch, if_neg hch]
  ·rw [chkAt_end t j (by omega), chkAt_end _ _ (by rw [ByteArray.size_append]; omega)]
theorem chk_append (s t : ByteArray) (h : (chk s).2 = 0) : chk (s ++ t) = (s.size + (chk t).1, (chk t).2) := by
 have h1 := chk_left s t _ 0 (Nat.le_refl _) (Nat.zero_le _) h
 have h2 := chk_right s t _ 0 (Nat.le_refl _) (Nat.zero_le _)
 unfold chk
 rw [h1]
 exact h2
end
end Go.Proofs.YtppmoeidgefkpaaGreatDoor
