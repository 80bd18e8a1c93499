/- Packed from the texts NmG. -/
import Derived.Test.YtbfalppeifkjdaaGreatDoorXk7
import Derived.Test.YtbfalppeifkjdaaGreatDoorXm2
section
namespace Go.Proofs.YtbfalppeifkjdaaGreatDoor
open Go.RowKit
def lgN (l : List FeedD) : Bool := decide (50 < l.length) || tlF 0 l
set_option maxRecDepth 100000 in
set_option maxHeartbeats 8000000 in
theorem law_largeN (l : List FeedD) (p : Option Addr) (c : Nat) (w : World) (hF : FeedsAt w p l) (hW : ∀ f ∈ l, FWf f) (hl : l.length ≤ 140737488351232) :
    Calls Tryz.prog 14 #[.slice p l.length c] w fun e w' => e = .returned (.bool (lgN l)) ∧ Below w.heap.size w w' := by
  have cT := law_TooLargeM l p c w hF hW hl
  have hlz : (l.length : Int) ≤ 140737488351232 := by omega
  unfold lgN
  generalize tlF 0 l = t at *
  clear hF hW
  by_cases h : 50 < l.length
  · have hz : (50 : Int) < (l.length : Int) := by omega
    rw [decide_eq_true h, Bool.true_or]
    clear cT
    go_enter Tryz.func14, Tryz.ntmps14
    go_wp2
    go_ret
    exact ⟨rfl, Below.refl _ _⟩
  · have hz : ¬ (50 : Int) < (l.length : Int) := by omega
    rw [decide_eq_false h, Bool.false_or]
    unfold oneZ at cT
    cases t
    · rw [if_neg (by simp)] at cT
      go_enter Tryz.func14, Tryz.ntmps14
      go_wp2_with fail
      refine cT.mono ?_
      rintro e w2 ⟨rfl, b2⟩
      go_wp2
      go_ret
      exact ⟨rfl, b2⟩
    · rw [if_pos rfl] at cT
      go_enter Tryz.func14, Tryz.ntmps14
      go_wp2_with fail
      refine cT.mono ?_
      rintro e w2 ⟨rfl, b2⟩
      go_wp2
      go_ret
      exact ⟨rfl, b2⟩
end Go.Proofs.YtbfalppeifkjdaaGreatDoor
end
