/- Package civil: Weekday. -/
import Derived.Test.YtdbpkggjnmapiaaDoorCivD
import Derived.Test.YtdbpkggjnmapiaaDoorCivW
namespace Go.Proofs.YtdbpkggjnmapiaaDoor
open Go.RowKit

set_option maxHeartbeats 1000000 in
theorem civ_Weekday (n : Int) (w : World) (_h : CivT w) : Calls Tryd.prog 20 #[.int .i64 n] w fun e w' => e = .returned (.tuple #[.int .i64 (if inDays n then (n + 719163) % 7 else 0), .int .i64 (if inDays n then 0 else 3)]) ∧ Below w.heap.size w w' := by
  rcases (by omega : n < -719162 ∨ (-719162 ≤ n ∧ 2932896 < n) ∨ (-719162 ≤ n ∧ n ≤ 2932896)) with h | ⟨h, g⟩ | ⟨h, g⟩
  · rw [show inDays n = false from decide_eq_false (by omega)]
    simp only [Bool.false_eq_true, if_false]
    go_enter Tryd.func20, Tryd.ntmps20
    go_wp2
    all_goals go_ret2
    all_goals exact ⟨rfl, Below.refl _ _⟩
  · rw [show inDays n = false from decide_eq_false (by omega)]
    simp only [Bool.false_eq_true, if_false]
    go_enter Tryd.func20, Tryd.ntmps20
    go_wp2
    all_goals go_ret2
    all_goals exact ⟨rfl, Below.refl _ _⟩
  · rw [show inDays n = true from decide_eq_true ⟨h, g⟩]
    simp only [if_true]
    have e : (n + 719163) % 7 = (n + 719162 + 1) % 7 := by omega
    rw [e]
    clear e
    go_enter Tryd.func20, Tryd.ntmps20
    go_wp2
    all_goals go_ret2
    all_goals exact ⟨rfl, Below.refl _ _⟩
end Go.Proofs.YtdbpkggjnmapiaaDoor
