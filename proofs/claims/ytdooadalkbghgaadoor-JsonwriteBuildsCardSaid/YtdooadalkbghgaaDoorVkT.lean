/- Packed from the texts JzS JzT JzU. -/
import Derived.Test.YtdooadalkbghgaaDoorVkM
import Derived.Test.YtdooadalkbghgaaDoorVkN
section
namespace Go.Proofs.YtdooadalkbghgaaDoor
open Go.RowKit
def Stop (t : List UInt8) : Prop := t = [] ∨ numP (t.getD 0 0) = false
end Go.Proofs.YtdooadalkbghgaaDoor
end
section
namespace Go.Proofs.YtdooadalkbghgaaDoor
open Go.RowKit
theorem vdepths_in : ∀ (l : List ValD) (m : Nat) (x : ValD), x ∈ l → x.depth ≤ vdepths l m
  | [], _, _, h => by cases h
  | k :: r, m, x, h => by
    rw [vdepths]
    rcases List.mem_cons.1 h with rfl | h
    · exact Nat.le_trans (Nat.le_max_right _ _) (vdepths_ge r _)
    · exact vdepths_in r _ x h
theorem mdepths_in : ∀ (l : List MemD) (m : Nat) (x : MemD), x ∈ l → x.v.depth ≤ mdepths l m
  | [], _, _, h => by cases h
  | k :: r, m, x, h => by
    rw [mdepths, mdepth_eq]
    rcases List.mem_cons.1 h with rfl | h
    · exact Nat.le_trans (Nat.le_max_right _ _) (mdepths_ge r _)
    · exact mdepths_in r _ x h
end Go.Proofs.YtdooadalkbghgaaDoor
end
section
namespace Go.Proofs.YtdooadalkbghgaaDoor
open Go.RowKit
theorem space_num (c : UInt8) (h : spB c = true) : numP c = false := by
  cases hn : numP c with
  | false => rfl
  | true =>
    exfalso
    unfold spB isSpaceB at h
    unfold numP jnumB at hn
    simp at h hn
    omega
end Go.Proofs.YtdooadalkbghgaaDoor
end
