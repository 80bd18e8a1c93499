/- Packed from the texts TextV. -/
import Derived.Test.YtppmoeidgefkpaaDoorVChk
import Derived.Test.YtppmoeidgefkpaaDoorVTextU
import Derived.Test.YtppmoeidgefkpaaDoorVkF
section
namespace Go.Proofs.YtppmoeidgefkpaaDoor
open Go.RowKit Go.Lib
def NmRel (s : ByteArray) (k : Nat) : Prop := k = 0 ∨ isNameB s = nameAt s k
theorem NmRel.next {s : ByteArray} {k r m : Nat} (h : NmRel s k) (hk : k < s.size) (hd : decP s k = (r, m)) (hc : nameCharB r = true) (hs : k = 0 → nameStartB r = true) : NmRel s (k + m) := by
  right
  rcases h with rfl | h
  · rw [isNameB_pos s hk, hd]; simp only; rw [hs rfl, if_pos rfl, Nat.zero_add]
  · rw [h, nameAt_eq s k hk, hd]; simp only; rw [hc, if_pos rfl]
theorem NmRel.done {s : ByteArray} {k : Nat} (h : NmRel s k) (hk : k = s.size) : isNameB s = decide (0 < k) := by
  rcases Nat.eq_zero_or_pos k with h0 | h0
  · rw [isNameB_empty s (by omega)]; simp [h0]
  · rcases h with rfl | h
    · omega
    · rw [h, nameAt_end s k (by omega)]; simp [h0]
end Go.Proofs.YtppmoeidgefkpaaDoor
end
