/- Packed from the texts NnV. -/
import Derived.Test.YtbfalppeifkjdaaGreatDoorXNmG
import Derived.Test.YtbfalppeifkjdaaGreatDoorXkZ
import Derived.Test.YtbfalppeifkjdaaGreatDoorXl8
import Derived.Test.YtbfalppeifkjdaaGreatDoorXm8
section
namespace Go.Proofs.YtbfalppeifkjdaaGreatDoor
open Go.RowKit
theorem lgN_small {l : List FeedD} (h : lgN l = false) : l.length ≤ 50 ∧ ∀ f ∈ l, FSm f := by
  unfold lgN at h
  rw [Bool.or_eq_false_iff] at h
  have h1 := of_decide_eq_false h.1
  exact ⟨by omega, (tlF_small l 0 h.2 (Nat.zero_le _)).2⟩
end Go.Proofs.YtbfalppeifkjdaaGreatDoor
end
