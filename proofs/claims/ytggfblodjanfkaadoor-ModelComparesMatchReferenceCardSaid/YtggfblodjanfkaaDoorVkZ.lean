/- Packed from the texts MdQ. -/
import Derived.Test.YtggfblodjanfkaaDoorVLate
import Derived.Test.YtggfblodjanfkaaDoorVk6
section
namespace Go.Proofs.YtggfblodjanfkaaDoor
open Go.RowKit
def sameA : List FeedD → List FeedD → Bool
  | [], _ => true
  | _ :: _, [] => true
  | f :: l, g :: m => sameB f g && sameA l m
theorem sameA_iff : ∀ l m : List FeedD, l.length = m.length → (sameA l m = true ↔ l = m)
  | [], [], _ => by simp [sameA]
  | f :: l, g :: m, h => by
    rw [sameA, Bool.and_eq_true, sameB_iff, sameA_iff l m (by simpa using h)]
    simp
def eqA (l m : List FeedD) : Bool := decide (l.length = m.length) && sameA l m
theorem eqA_iff (l m : List FeedD) : eqA l m = true ↔ l = m := by
  unfold eqA
  rw [Bool.and_eq_true, decide_eq_true_iff]
  constructor
  · rintro ⟨h, k⟩
    exact (sameA_iff l m h).1 k
  · rintro rfl
    exact ⟨rfl, (sameA_iff l l rfl).2 rfl⟩
end Go.Proofs.YtggfblodjanfkaaDoor
end
