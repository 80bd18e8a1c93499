/- Packed from the texts TokA. -/
import Derived.Test.YtggfblodjanfkaaGreatDoorVkA
import Derived.Test.YtggfblodjanfkaaGreatDoorVkB
import Derived.Test.YtggfblodjanfkaaGreatDoorVkC
import Derived.Test.YtggfblodjanfkaaGreatDoorVkI
import Derived.Test.YtggfblodjanfkaaGreatDoorChecked
import Derived.Lib.Index
section
namespace Go.Proofs.YtggfblodjanfkaaGreatDoor
open Go.RowKit
theorem kstr_ext {a b : ByteArray} (h : a.data.toList = b.data.toList) : a = b := by
  cases a; cases b; simp at h; simp [h]
def spB (c : UInt8) : Bool := isSpaceB (c.toNat : Int)
def qcB (r : Int) : Bool := r == 58 || nameCharB r
def qsB (r : Int) : Bool := r == 58 || nameStartB r
def qnF (s : ByteArray) : Nat → Nat → Bool
  | 0, _ => true
  | f + 1, i => if i < s.size then (if qcB (decP s i).1 then qnF s f (i + (decP s i).2) else false) else true
theorem pos_of_qn (s : ByteArray) (i : Nat) (h : i < s.size) (hc : qcB (decP s i).1 = true) : 0 < (decP s i).2 := by
  rcases Nat.eq_zero_or_pos (decP s i).2 with h0 | h0
  · rw [(decP_ok s i h).2.2.2 h0] at hc
    exact absurd hc (by decide)
  · exact h0
theorem qnF_more (s : ByteArray) : ∀ f g i, s.size - i ≤ f → s.size - i ≤ g → qnF s f i = qnF s g i
  | 0, 0, _, _, _ => rfl
  | 0, g + 1, i, h, _ => by rw [qnF, qnF, if_neg (by omega)]
  | f + 1, 0, i, _, h => by rw [qnF, qnF, if_neg (by omega)]
  | f + 1, g + 1, i, h, h' => by
    rw [qnF, qnF]
    by_cases hi : i < s.size
    · rw [if_pos hi, if_pos hi]
      by_cases hc : qcB (decP s i).1
      · have := pos_of_qn s i hi hc
        rw [if_pos hc, if_pos hc]; exact qnF_more s f g _ (by omega) (by omega)
      · rw [if_neg hc, if_neg hc]
    · rw [if_neg hi, if_neg hi]
def qnAt (s : ByteArray) (i : Nat) : Bool := qnF s (s.size - i) i
theorem qnAt_end (s : ByteArray) (i : Nat) (h : s.size ≤ i) : qnAt s i = true := by rw [qnAt, show s.size - i = 0 by omega, qnF]
theorem qnAt_eq (s : ByteArray) (i : Nat) (h : i < s.size) : qnAt s i = if qcB (decP s i).1 then qnAt s (i + (decP s i).2) else false := by
  rw [qnAt, show s.size - i = (s.size - i - 1) + 1 by omega, qnF, if_pos h]
  by_cases hc : qcB (decP s i).1
  · have := pos_of_qn s i h hc
    rw [if_pos hc, if_pos hc, qnAt, qnF_more s _ (s.size - (i + (decP s i).2)) _ (by omega) (by omega)]
  · rw [if_neg hc, if_neg hc]
def isQB (s : ByteArray) : Bool := decide (0 < s.size) && (qsB (decP s 0).1 && qnAt s (decP s 0).2)
theorem isQB_pos (s : ByteArray) (h : 0 < s.size) : isQB s = (qsB (decP s 0).1 && qnAt s (decP s 0).2) := by unfold isQB; rw [decide_eq_true h, Bool.true_and]
theorem qs_char (r : Int) (h : qcB r = false) : qsB r = false := by
  unfold qcB at h
  rw [Bool.or_eq_false_iff] at h
  unfold qsB
  rw [h.1]
  have h2 := h.2
  unfold nameCharB at h2
  rw [Bool.or_eq_false_iff] at h2
  rw [h2.1]; rfl
def QnRel (s : ByteArray) (k : Nat) : Prop := k = 0 ∨ isQB s = qnAt s k
theorem QnRel.none {s : ByteArray} {k r m : Nat} (h : QnRel s k) (hk : k < s.size) (hd : decP s k = (r, m)) (hm : m = 0 ∨ qcB r = false) : isQB s = false := by
  have hc : qcB r = false := by
    rcases hm with rfl | hm
    · have := (decP_ok s k hk).2.2.2 (by rw [hd])
      rw [hd] at this
      simp only at this
      subst this
      decide
    · exact hm
  rcases h with rfl | h
  · rw [isQB_pos s hk, hd]; simp only; rw [qs_char _ hc]; rfl
  · rw [h, qnAt_eq s k hk, hd]; simp only; rw [hc]; rfl
theorem QnRel.start {s : ByteArray} {r m : Nat} (hk : 0 < s.size) (hd : decP s 0 = (r, m)) (hs : qsB r = false) : isQB s = false := by
  rw [isQB_pos s hk, hd]; simp only; rw [hs]; rfl
theorem QnRel.next {s : ByteArray} {k r m : Nat} (h : QnRel s k) (hk : k < s.size) (hd : decP s k = (r, m)) (hc : qcB r = true) (hs : k = 0 → qsB r = true) : QnRel s (k + m) := by
  right
  rcases h with rfl | h
  · rw [isQB_pos s hk, hd]; simp only; rw [hs rfl, Bool.true_and, Nat.zero_add]
  · rw [h, qnAt_eq s k hk, hd]; simp only; rw [hc, if_pos rfl]
theorem QnRel.done {s : ByteArray} {k : Nat} (h : QnRel s k) (hk : k = s.size) : isQB s = decide (0 < k) := by
  rcases Nat.eq_zero_or_pos k with h0 | h0
  · unfold isQB; rw [decide_eq_false (by omega), decide_eq_false (by omega)]; rfl
  · rcases h with rfl | h
    · omega
    · rw [h, qnAt_end s k (by omega)]; simp [h0]
end Go.Proofs.YtggfblodjanfkaaGreatDoor
end
