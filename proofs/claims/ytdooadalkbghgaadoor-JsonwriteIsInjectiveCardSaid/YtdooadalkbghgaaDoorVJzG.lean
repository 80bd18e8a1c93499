/- Packed from the texts JzG. -/
import Derived.Test.YtdooadalkbghgaaDoorVkP
import Derived.Lib.Repeat
section
namespace Go.Proofs.YtdooadalkbghgaaDoor
open Go.RowKit
theorem spN_no (c : UInt8) (r : List UInt8) (h : spB c = false) : spN (c :: r) = 0 := by
  unfold spN
  rw [List.takeWhile_cons, h]
  rfl
theorem plus_zero (R : Jres) : R.plus 0 = R := by
  cases R with
  | err a e => rfl
  | ok v k => show Jres.ok v (0 + k) = _; rw [Nat.zero_add]
theorem head_open (obj : Bool) (f i d : Nat) (r : List UInt8) (h0 : spN r = 0) : headK (f + 1) i ((if obj then 123 else 91) :: r) d = if d > 100 then .err i 9 else if [endB obj].isPrefixOf r = true then .ok (.mk (kindB obj) false 0 ⟨#[]⟩ [] [] i) 2 else (listK f obj i [] [] (i + 1) r d).plus 1 := by
  cases obj with
  | false =>
    simp only [Bool.false_eq_true, if_false]
    rw [headK, if_neg (by simp), if_neg (by simp), if_neg (by simp), if_neg (by simp), if_neg (by simp), if_pos (by simp)]
    simp [h0]
  | true =>
    simp only [if_true]
    rw [headK, if_neg (by simp), if_neg (by simp), if_neg (by simp), if_neg (by simp), if_neg (by simp), if_pos (by simp)]
    simp [h0]
end Go.Proofs.YtdooadalkbghgaaDoor
end
