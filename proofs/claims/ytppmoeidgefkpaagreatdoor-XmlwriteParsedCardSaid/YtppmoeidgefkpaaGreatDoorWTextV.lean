/- Packed from the texts TextV. -/
import Derived.Test.YtppmoeidgefkpaaGreatDoorWChk
import Derived.Test.YtppmoeidgefkpaaGreatDoorWTextU
import Derived.Test.YtppmoeidgefkpaaGreatDoorWkF
namespace Go.Proofs.YtppmoeidgefkpaaGreatDoor
section
open Go.RowKit Go.Lib
theorem start_char (r : Int) (h : nameCharB r = false) : nameStartB r = false := by
 unfold nameCharB at h
 cases hs : nameStartB r
 ·rfl
 ·rw [hs] at h; simp at h
def NmRel (s : ByteArray) (k : Nat) : Prop := k = 0 ∨ isNameB s = nameAt s k
theorem NmRel.none {s : ByteArray} {k r m : Nat} (h : NmRel s k) (hk : k < s.size) (hd : decP s k = (r, m)) (hm : m = 0 ∨ nameCharB r = false) : isNameB s = false := by
 have hc : nameCharB r = false := by
  rcases hm with rfl | hm
  ·have := (decP_ok s k hk).2.2.2 (by rw [hd])
   rw [hd] at this
   simp only at this
   subst this
   decide
  ·exact hm
 rcases h with rfl | h
 ·rw [isNameB_pos s hk, hd]; simp only; rw [start_char _ hc]; rfl
 ·rw [h, nameAt_eq s k hk, hd]; simp only; rw [hc]; rfl
theorem NmRel.start {s : ByteArray} {r m : Nat} (hk : 0 < s.size) (hd : decP s 0 = (r, m)) (hs : nameStartB r = false) : isNameB s = false := by
 rw [isNameB_pos s hk, hd]; simp only; rw [hs]; rfl
theorem NmRel.next {s : ByteArray} {k r m : Nat} (h : NmRel s k) (hk : k < s.size) (hd : decP s k = (r, m)) (hc : nameCharB r = true) (hs : k = 0 → nameStartB r = true) : NmRel s (k + m) := by
 right
 rcases h with rfl | h
 ·rw [isNameB_pos s hk, hd]; simp only; rw [hs rfl, if_pos rfl, Nat.zero_add]
 ·rw [h, nameAt_eq s k hk, hd]; simp only; rw [hc, if_pos rfl]
theorem NmRel.done {s : ByteArray} {k : Nat} (h : NmRel s k) (hk : k = s.size) : isNameB s = decide (0 < k) := by
 rcases Nat.eq_zero_or_pos k with h0 | h0
 ·rw [isNameB_empty s (by omega)]; simp [h0]
 ·rcases h with rfl | h
  ·omega
  ·rw [h, nameAt_end s k (by omega)]; simp [h0]
end
end Go.Proofs.YtppmoeidgefkpaaGreatDoor
