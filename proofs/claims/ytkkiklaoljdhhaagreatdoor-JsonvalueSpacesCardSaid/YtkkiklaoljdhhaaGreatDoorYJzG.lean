/- Packed from the texts JzG. -/
import Derived.Test.YtkkiklaoljdhhaaGreatDoorYkP
import Derived.Lib.Repeat
section
namespace Go.Proofs.YtkkiklaoljdhhaaGreatDoor
open Go.RowKit
theorem spN_no (c : UInt8) (r : List UInt8) (h : spB c = false) : spN (c :: r) = 0 := by
  unfold spN
  rw [List.takeWhile_cons, h]
  rfl
theorem plus_zero (R : Jres) : R.plus 0 = R := by
  cases R with
  | err a e => rfl
  | ok v k => show Jres.ok v (0 + k) = _; rw [Nat.zero_add]
end Go.Proofs.YtkkiklaoljdhhaaGreatDoor
end
