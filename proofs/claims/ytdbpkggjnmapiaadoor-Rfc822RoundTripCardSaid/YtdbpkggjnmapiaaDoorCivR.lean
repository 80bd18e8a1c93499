/- The reference of layer 2: what each of its functions returns; nothing is written. -/
import Derived.Test.YtdbpkggjnmapiaaDoorChecked
import Derived.Test.YtdbpkggjnmapiaaDoorCivS
import Derived.WalkSpells
import Derived.Lib.Hide
import Derived.Below
namespace Go.Proofs.YtdbpkggjnmapiaaDoor
open Go.RowKit

theorem retI {k : IntKind} {a b : Int} (h : a = b) : Ending.returned (.int k a) = .returned (.int k b) := by rw [h]
theorem retB {a b : Bool} (h : a = b) : Ending.returned (.bool a) = .returned (.bool b) := by rw [h]

set_option maxHeartbeats 1000000 in
theorem cref_Leap (y : Int) (w : World) :
    Calls Tryd.prog 76 #[.int .i64 y] w fun e w' => e = .returned (.bool (lpB y)) ∧ w = w' := by
  go_enter Tryd.func76, Tryd.ntmps76
  go_wp2
  all_goals go_ret
  all_goals (refine ⟨retB ?_, rfl⟩; rw [Bool.eq_iff_iff]; simp only [lpB, decide_eq_true_eq]; simp; try omega)

set_option maxHeartbeats 2000000 in
theorem cref_DaysIn (y m : Int) (w : World) :
    Calls Tryd.prog 72 #[.int .i64 y, .int .i64 m] w fun e w' => e = .returned (.int .i64 (dimI y m)) ∧ w = w' := by
  have hl := cref_Leap y
  by_cases hr : 1 ≤ y ∧ y ≤ 9999 ∧ 1 ≤ m ∧ m ≤ 12
  · obtain ⟨a, b, c, d⟩ := hr
    have h01 := lp_01 y
    have hv : lpI y = 0 ∨ lpI y = 1 := by omega
    have hd := dim_eq y m ⟨a, b⟩ ⟨c, d⟩
    rw [hd]
    clear hd
    by_cases h2 : m = 2
    · subst h2
      rcases hv with hv | hv
      · rw [lpB_false ⟨a, b⟩ hv] at hl
        rw [hv]
        clear hv h01
        go_enter Tryd.func72, Tryd.ntmps72
        go_wp2_with (go_at_call 76; refine (hl _).mono ?_; rintro e w' ⟨rfl, rfl⟩)
        all_goals go_ret
        all_goals exact ⟨rfl, rfl⟩
      · rw [lpB_true ⟨a, b⟩ hv] at hl
        rw [hv]
        clear hv h01
        go_enter Tryd.func72, Tryd.ntmps72
        go_wp2_with (go_at_call 76; refine (hl _).mono ?_; rintro e w' ⟨rfl, rfl⟩)
        all_goals go_ret
        all_goals exact ⟨rfl, rfl⟩
    · rw [if_neg h2, Int.add_zero]
      clear hv h01 hl
      by_cases h30 : m = 4 ∨ m = 6 ∨ m = 9 ∨ m = 11
      · rcases h30 with rfl | rfl | rfl | rfl
        all_goals
          go_enter Tryd.func72, Tryd.ntmps72
          go_wp2
          go_ret
          exact ⟨rfl, rfl⟩
      · have e : dimT m = 31 := by unfold dimT; rw [if_neg h2, if_neg h30]
        rw [e]
        have f2 : (m == 2) = false := by simp; omega
        have f4 : (m == 4) = false := by simp; omega
        have f6 : (m == 6) = false := by simp; omega
        have f9 : (m == 9) = false := by simp; omega
        have f11 : (m == 11) = false := by simp; omega
        clear e h2 h30
        go_enter Tryd.func72, Tryd.ntmps72
        go_wp2
        all_goals go_ret
        all_goals exact ⟨rfl, rfl⟩
  · rw [dim_out y m hr]
    clear hl
    rcases (by omega : y < 1 ∨ (1 ≤ y ∧ 9999 < y) ∨ (1 ≤ y ∧ y ≤ 9999 ∧ m < 1) ∨ (1 ≤ y ∧ y ≤ 9999 ∧ 1 ≤ m ∧ 12 < m)) with h | ⟨h, g⟩ | ⟨h, g, f⟩ | ⟨h, g, f, q⟩
    all_goals
      clear hr
      go_enter Tryd.func72, Tryd.ntmps72
      go_wp2
      all_goals go_ret
      all_goals exact ⟨rfl, rfl⟩

set_option maxHeartbeats 1000000 in
theorem cref_before (y : Int) (w : World) (h1 : 1 ≤ y) (h2 : y ≤ 9999) :
    Calls Tryd.prog 73 #[.int .i64 y] w fun e w' => e = .returned (.int .i64 (befI y)) ∧ w = w' := by
  go_enter Tryd.func73, Tryd.ntmps73
  go_wp2
  go_loop [3, 4] (fun n i => ∃ k : Int, 1 ≤ k ∧ k ≤ y ∧ i = .int .i64 k ∧ n = .int .i64 (befI k)) (fun _ i => (y - intOf i).toNat)
  case atStart => exact ⟨1, by omega, h1, rfl, rfl⟩
  case round =>
    obtain ⟨k, hk1, hk2, rfl, rfl⟩ := hrel
    have hb := bef_bd k (by omega)
    by_cases hlt : k < y
    · have hs := bef_succ k hk1
      have h01 := lp_01 k
      have hl := cref_Leap k
      rcases (by omega : lpI k = 0 ∨ lpI k = 1) with hv | hv
      · rw [lpB_false (by omega) hv] at hl
        rw [hv] at hs
        have HS := Lib.hid hs
        clear hs hv h01
        go_wp2_with (go_at_call 76; refine (hl _).mono ?_; rintro e w' ⟨rfl, rfl⟩)
        go_round
        case rel => exact ⟨k + 1, by omega, by omega, rfl, by rw [HS.out]; go_num⟩
        case measure => simp [intOf]; omega
      · rw [lpB_true (by omega) hv] at hl
        rw [hv] at hs
        have HS := Lib.hid hs
        clear hs hv h01
        go_wp2_with (go_at_call 76; refine (hl _).mono ?_; rintro e w' ⟨rfl, rfl⟩)
        go_round
        case rel => exact ⟨k + 1, by omega, by omega, rfl, by rw [HS.out]⟩
        case measure => simp [intOf]; omega
    · obtain rfl : k = y := by omega
      go_wp2
      go_ret
      exact ⟨rfl, rfl⟩

/-- What Days returns. -/
def daysV (y m d : Int) : Int × Int := if okB y m d then (numI y m d, 0) else (0, 3)
set_option maxHeartbeats 2000000 in
theorem cref_Days (y m d : Int) (w : World) :
    Calls Tryd.prog 48 #[.int .i64 y, .int .i64 m, .int .i64 d] w fun e w' => e = .returned (.tuple #[.int .i64 (daysV y m d).1, .int .i64 (daysV y m d).2]) ∧ w = w' := by
  have hdim := cref_DaysIn y m
  unfold daysV
  rcases hok : okB y m d with _ | _
  · simp only [Bool.false_eq_true, if_false]
    have hno : d < 1 ∨ (1 ≤ d ∧ dimI y m < d) := by
      unfold okB at hok
      have := of_decide_eq_false hok
      omega
    generalize dimI y m = D at hdim hno
    clear hok
    rcases hno with h | ⟨h, g⟩
    all_goals
      go_enter Tryd.func48, Tryd.ntmps48
      go_wp2_with (go_at_call 72; refine (hdim _).mono ?_; rintro e w' ⟨rfl, rfl⟩)
      all_goals go_ret2
      all_goals exact ⟨rfl, rfl⟩
  · simp only [if_true]
    have hv := (okB_iff y m d).1 hok
    have hn := num_bd y m d hv
    obtain ⟨a, b, c, f, g, h⟩ := hv
    have hbe := cref_before y
    have hbb := bef_bd y (by omega)
    have hd31 := dim_bd y m
    clear hok
    go_enter Tryd.func48, Tryd.ntmps48
    go_wp2_with (first | (go_at_call 72; refine (hdim _).mono ?_; rintro e w' ⟨rfl, rfl⟩) | (go_at_call 73; refine (hbe _ a b).mono ?_; rintro e w' ⟨rfl, rfl⟩))
    go_loop [8, 9] (fun n i => ∃ k : Int, 1 ≤ k ∧ k ≤ m ∧ i = .int .i64 k ∧ n = .int .i64 (befI y - 719162 + cumI y k)) (fun _ i => (m - intOf i).toNat)
    case atStart => exact ⟨1, by omega, c, rfl, by rw [cum_one, Int.add_zero]⟩
    case round =>
      obtain ⟨k, hk1, hk2, rfl, rfl⟩ := hrel
      have hcb := cum_bd y k (by omega)
      by_cases hlt : k < m
      · have hcs := cum_succ y k ⟨a, b⟩ (by omega)
        have hdk := cref_DaysIn y k
        have hk31 := dim_bd y k
        have HS := Lib.hid hcs
        clear hcs
        go_wp2_with (go_at_call 72; refine (hdk _).mono ?_; rintro e w' ⟨rfl, rfl⟩)
        go_round
        case rel => exact ⟨k + 1, by omega, by omega, rfl, by rw [HS.out]; go_num⟩
        case measure => simp [intOf]; omega
      · obtain rfl : k = m := by omega
        have hnum : numI y k d = befI y - 719162 + cumI y k + (d - 1) := rfl
        have HN := Lib.hid hnum
        clear hnum
        go_wp2
        go_ret2
        exact ⟨by rw [HN.out]; rfl, rfl⟩
end Go.Proofs.YtdbpkggjnmapiaaDoor
