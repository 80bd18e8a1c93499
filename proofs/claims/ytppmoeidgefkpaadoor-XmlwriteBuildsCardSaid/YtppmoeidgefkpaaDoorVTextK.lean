/- Packed from the texts TextK. -/
import Derived.Test.YtppmoeidgefkpaaDoorVTextD
section
namespace Go.Proofs.YtppmoeidgefkpaaDoor
open Go.RowKit Go.Lib
set_option maxRecDepth 100000 in
set_option maxHeartbeats 2000000 in
theorem decodeN_ok (n b0 b1 b2 b3 : Nat) (hn : 0 < n) : 1 ≤ (decodeN n b0 b1 b2 b3).2 ∧ (decodeN n b0 b1 b2 b3).2 ≤ n ∧ (decodeN n b0 b1 b2 b3).2 ≤ 4 ∧ (decodeN n b0 b1 b2 b3).1 ≤ 1114111 := by
  unfold decodeN
  repeat' split
  all_goals (simp only; omega)
theorem decP_ok (s : ByteArray) (i : Nat) (h : i < s.size) : i + (decP s i).2 ≤ s.size ∧ (decP s i).2 ≤ 4 ∧ (decP s i).1 ≤ 1114111 ∧ ((decP s i).2 = 0 → (decP s i).1 = 0) := by
  have h1 := decodeN_ok (s.size - i) (s.get! i).toNat (s.get! (i + 1)).toNat (s.get! (i + 2)).toNat (s.get! (i + 3)).toNat (by omega)
  unfold decP
  rw [decode_at]
  generalize decodeN (s.size - i) (s.get! i).toNat (s.get! (i + 1)).toNat (s.get! (i + 2)).toNat (s.get! (i + 3)).toNat = d at *
  obtain ⟨a, b⟩ := d
  simp only at h1 ⊢
  split
  · simp; omega
  · simp only; omega
theorem decI_at (s : ByteArray) (i : Nat) (h : i < s.size) : decI s i = decP s i := by rw [decI, if_neg (by omega)]; simp
theorem decI_zero (s : ByteArray) : decI s 0 = if 0 < s.size then decP s 0 else (0, 0) := by
  by_cases h : 0 < s.size
  · rw [if_pos h]; exact decI_at s 0 h
  · rw [if_neg h, decI, if_pos (.inr (by omega))]
def chkF (s : ByteArray) : Nat → Nat → Nat × Nat
  | 0, i => (i, 0)
  | f + 1, i => if i < s.size then (if (decP s i).2 = 0 then (i, 5) else if isCharB (decP s i).1 then chkF s f (i + (decP s i).2) else (i, 6)) else (i, 0)
theorem chkF_more (s : ByteArray) : ∀ f g i, s.size - i ≤ f → s.size - i ≤ g → chkF s f i = chkF s g i
  | 0, 0, _, _, _ => rfl
  | 0, g + 1, i, h, _ => by rw [chkF, chkF, if_neg (by omega)]
  | f + 1, 0, i, _, h => by rw [chkF, chkF, if_neg (by omega)]
  | f + 1, g + 1, i, h, h' => by
    rw [chkF, chkF]
    by_cases hi : i < s.size
    · rw [if_pos hi, if_pos hi]
      by_cases h0 : (decP s i).2 = 0
      · rw [if_pos h0, if_pos h0]
      · rw [if_neg h0, if_neg h0]
        by_cases hc : isCharB (decP s i).1
        · rw [if_pos hc, if_pos hc]; exact chkF_more s f g _ (by omega) (by omega)
        · rw [if_neg hc, if_neg hc]
    · rw [if_neg hi, if_neg hi]
def chkAt (s : ByteArray) (i : Nat) : Nat × Nat := chkF s (s.size - i) i
theorem chkAt_end (s : ByteArray) (i : Nat) (h : s.size ≤ i) : chkAt s i = (i, 0) := by rw [chkAt, show s.size - i = 0 by omega, chkF]
theorem chkAt_eq (s : ByteArray) (i : Nat) (h : i < s.size) : chkAt s i = if (decP s i).2 = 0 then (i, 5) else if isCharB (decP s i).1 then chkAt s (i + (decP s i).2) else (i, 6) := by
  rw [chkAt, show s.size - i = (s.size - i - 1) + 1 by omega, chkF, if_pos h]
  by_cases h0 : (decP s i).2 = 0
  · rw [if_pos h0, if_pos h0]
  · rw [if_neg h0, if_neg h0, chkAt, chkF_more s _ (s.size - (i + (decP s i).2)) _ (by omega) (by omega)]
def chk (s : ByteArray) : Nat × Nat := chkAt s 0
def nameF (s : ByteArray) : Nat → Nat → Bool
  | 0, _ => true
  | f + 1, i => if i < s.size then (if nameCharB (decP s i).1 then nameF s f (i + (decP s i).2) else false) else true
theorem pos_of_name (s : ByteArray) (i : Nat) (h : i < s.size) (hc : nameCharB (decP s i).1 = true) : 0 < (decP s i).2 := by
  rcases Nat.eq_zero_or_pos (decP s i).2 with h0 | h0
  · rw [(decP_ok s i h).2.2.2 h0] at hc
    exact absurd hc (by decide)
  · exact h0
theorem nameF_more (s : ByteArray) : ∀ f g i, s.size - i ≤ f → s.size - i ≤ g → nameF s f i = nameF s g i
  | 0, 0, _, _, _ => rfl
  | 0, g + 1, i, h, _ => by rw [nameF, nameF, if_neg (by omega)]
  | f + 1, 0, i, _, h => by rw [nameF, nameF, if_neg (by omega)]
  | f + 1, g + 1, i, h, h' => by
    rw [nameF, nameF]
    by_cases hi : i < s.size
    · rw [if_pos hi, if_pos hi]
      by_cases hc : nameCharB (decP s i).1
      · have := pos_of_name s i hi hc
        rw [if_pos hc, if_pos hc]; exact nameF_more s f g _ (by omega) (by omega)
      · rw [if_neg hc, if_neg hc]
    · rw [if_neg hi, if_neg hi]
def nameAt (s : ByteArray) (i : Nat) : Bool := nameF s (s.size - i) i
theorem nameAt_end (s : ByteArray) (i : Nat) (h : s.size ≤ i) : nameAt s i = true := by rw [nameAt, show s.size - i = 0 by omega, nameF]
theorem nameAt_eq (s : ByteArray) (i : Nat) (h : i < s.size) : nameAt s i = if nameCharB (decP s i).1 then nameAt s (i + (decP s i).2) else false := by
  rw [nameAt, show s.size - i = (s.size - i - 1) + 1 by omega, nameF, if_pos h]
  by_cases hc : nameCharB (decP s i).1
  · have := pos_of_name s i h hc
    rw [if_pos hc, if_pos hc, nameAt, nameF_more s _ (s.size - (i + (decP s i).2)) _ (by omega) (by omega)]
  · rw [if_neg hc, if_neg hc]
def isNameB (s : ByteArray) : Bool := if nameStartB (decI s 0).1 then nameAt s (decI s 0).2 else false
theorem isNameB_empty (s : ByteArray) (h : s.size = 0) : isNameB s = false := by
  have h1 : decI s 0 = (0, 0) := by rw [decI_zero, if_neg (by omega)]
  rw [isNameB, h1]; rfl
theorem isNameB_pos (s : ByteArray) (h : 0 < s.size) : isNameB s = if nameStartB (decP s 0).1 then nameAt s (decP s 0).2 else false := by
  have h1 : decI s 0 = decP s 0 := by rw [decI_zero, if_pos h]
  rw [isNameB, h1]
end Go.Proofs.YtppmoeidgefkpaaDoor
end
