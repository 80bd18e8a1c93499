/- The reference of layer 2: Date and Seconds. -/
import Derived.Test.YtdbpkggjnmapiaaDoorCivR
namespace Go.Proofs.YtdbpkggjnmapiaaDoor
open Go.RowKit

theorem cref_Date_no (n : Int) (w : World) (h : n < -719162 ∨ 2932896 < n) :
    Calls Tryd.prog 52 #[.int .i64 n] w fun e w' => e = .returned (.tuple #[.int .i64 0, .int .i64 0, .int .i64 0, .int .i64 3]) ∧ w = w' := by
  rcases h with h | h
  · go_enter Tryd.func52, Tryd.ntmps52
    go_wp2
    exact bodyPost_ret (v := .tuple #[.int .i64 0, .int .i64 0, .int .i64 0, .int .i64 3]) (by simp [results, Tryd.results52, go_sem]) rfl ⟨rfl, rfl⟩
  · have h' : ¬ n < -719162 := by omega
    go_enter Tryd.func52, Tryd.ntmps52
    go_wp2
    exact bodyPost_ret (v := .tuple #[.int .i64 0, .int .i64 0, .int .i64 0, .int .i64 3]) (by simp [results, Tryd.results52, go_sem]) rfl ⟨rfl, rfl⟩

set_option maxHeartbeats 4000000 in
theorem cref_Date_yes (y0 m0 d0 : Int) (w : World) (hv : okDate y0 m0 d0) :
    Calls Tryd.prog 52 #[.int .i64 (numI y0 m0 d0)] w fun e w' => e = .returned (.tuple #[.int .i64 y0, .int .i64 m0, .int .i64 d0, .int .i64 0]) ∧ w = w' := by
  obtain ⟨b1, b2, b3, b4⟩ := num_bd y0 m0 d0 hv
  obtain ⟨v1, v2, v3, v4, v5, v6⟩ := hv
  have hnum : numI y0 m0 d0 = befI y0 - 719162 + cumI y0 m0 + (d0 - 1) := rfl
  generalize hn : numI y0 m0 d0 = n at *
  have HN := Lib.hid hnum
  clear hnum hn
  go_enter Tryd.func52, Tryd.ntmps52
  go_wp2
  go_loop [6, 7] (fun l t => ∃ y : Int, 1 ≤ y ∧ y ≤ y0 ∧ t = .int .i64 y ∧ l = .int .i64 (n + 719162 - befI y)) (fun _ t => (y0 - intOf t).toNat)
  case atStart => exact ⟨1, by omega, v1, rfl, by rw [bef_one, Int.sub_zero]⟩
  case round =>
    obtain ⟨y, hy1, hy2, rfl, rfl⟩ := hrel
    have hb := bef_bd y (by omega)
    have hs := bef_succ y hy1
    have h01 := lp_01 y
    have hl := cref_Leap y
    by_cases hlt : y < y0
    · have hm := bef_mono (y + 1) y0 (by omega)
      rcases (by omega : lpI y = 0 ∨ lpI y = 1) with hv | hv
      · rw [lpB_false (by omega) hv] at hl
        rw [hv, Int.add_zero] at hs
        have hge : ¬ n + 719162 - befI y < 365 := by omega
        have HS := Lib.hid hs
        clear hs hv h01 hm
        go_wp2_with (go_at_call 76; refine (hl _).mono ?_; rintro e w' ⟨rfl, rfl⟩)
        go_round
        case rel => exact ⟨y + 1, by omega, by omega, rfl, by rw [HS.out]; go_num⟩
        case measure => simp [intOf]; omega
      · rw [lpB_true (by omega) hv] at hl
        rw [hv] at hs
        have hge : ¬ n + 719162 - befI y < 366 := by omega
        have HS := Lib.hid hs
        clear hs hv h01 hm
        go_wp2_with (go_at_call 76; refine (hl _).mono ?_; rintro e w' ⟨rfl, rfl⟩)
        go_round
        case rel => exact ⟨y + 1, by omega, by omega, rfl, by rw [HS.out]; go_num⟩
        case measure => simp [intOf]; omega
    · obtain rfl : y = y0 := by omega
      rcases (by omega : lpI y = 0 ∨ lpI y = 1) with hv | hv
      · rw [lpB_false (by omega) hv] at hl
        rw [hv, Int.add_zero] at hs
        have hge : n + 719162 - befI y < 365 := by omega
        clear hs hv h01
        go_wp2_with (go_at_call 76; refine (hl _).mono ?_; rintro e w' ⟨rfl, rfl⟩)
        go_loop [6, 9] (fun l t => ∃ m : Int, 1 ≤ m ∧ m ≤ m0 ∧ t = .int .i64 m ∧ l = .int .i64 (n + 719162 - befI y - cumI y m)) (fun _ t => (m0 - intOf t).toNat)
        case atStart => exact ⟨1, by omega, v3, rfl, by rw [cum_one, Int.sub_zero]⟩
        case round => 
          obtain ⟨m, hm1, hm2, rfl, rfl⟩ := hrel
          have hcb := cum_bd y m (by omega)
          have hdk := cref_DaysIn y m
          have hk31 := dim_bd y m
          have hN := HN.out
          by_cases hlm : m < m0
          · have hle := cum_le y m m0 (by omega) hm1 hlm (by omega)
            have hcs := cum_succ y m (by omega) (by omega)
            have hge2 : dimI y m ≤ n + 719162 - befI y - cumI y m := by omega
            have HS := Lib.hid hcs
            clear hcs hle hN
            go_wp2_with (go_at_call 72; refine (hdk _).mono ?_; rintro e w' ⟨rfl, rfl⟩)
            go_round
            case rel => exact ⟨m + 1, by omega, by omega, rfl, by rw [HS.out]; go_num⟩
            case measure => simp [intOf]; omega
          · obtain rfl : m = m0 := by omega
            have hge2 : ¬ dimI y m ≤ n + 719162 - befI y - cumI y m := by omega
            have hday : n + 719162 - befI y - cumI y m + 1 = d0 := by omega
            have HD := Lib.hid hday
            clear hN hday
            go_wp2_with (go_at_call 72; refine (hdk _).mono ?_; rintro e w' ⟨rfl, rfl⟩)
            exact bodyPost_ret (v := .tuple #[.int .i64 y, .int .i64 m, .int .i64 (n + 719162 - befI y - cumI y m + 1), .int .i64 0]) (by simp [results, Tryd.results52, go_sem]) rfl ⟨by rw [HD.out], rfl⟩
      · rw [lpB_true (by omega) hv] at hl
        rw [hv] at hs
        have hge : n + 719162 - befI y < 366 := by omega
        clear hs hv h01
        go_wp2_with (go_at_call 76; refine (hl _).mono ?_; rintro e w' ⟨rfl, rfl⟩)
        go_loop [6, 9] (fun l t => ∃ m : Int, 1 ≤ m ∧ m ≤ m0 ∧ t = .int .i64 m ∧ l = .int .i64 (n + 719162 - befI y - cumI y m)) (fun _ t => (m0 - intOf t).toNat)
        case atStart => exact ⟨1, by omega, v3, rfl, by rw [cum_one, Int.sub_zero]⟩
        case round => 
          obtain ⟨m, hm1, hm2, rfl, rfl⟩ := hrel
          have hcb := cum_bd y m (by omega)
          have hdk := cref_DaysIn y m
          have hk31 := dim_bd y m
          have hN := HN.out
          by_cases hlm : m < m0
          · have hle := cum_le y m m0 (by omega) hm1 hlm (by omega)
            have hcs := cum_succ y m (by omega) (by omega)
            have hge2 : dimI y m ≤ n + 719162 - befI y - cumI y m := by omega
            have HS := Lib.hid hcs
            clear hcs hle hN
            go_wp2_with (go_at_call 72; refine (hdk _).mono ?_; rintro e w' ⟨rfl, rfl⟩)
            go_round
            case rel => exact ⟨m + 1, by omega, by omega, rfl, by rw [HS.out]; go_num⟩
            case measure => simp [intOf]; omega
          · obtain rfl : m = m0 := by omega
            have hge2 : ¬ dimI y m ≤ n + 719162 - befI y - cumI y m := by omega
            have hday : n + 719162 - befI y - cumI y m + 1 = d0 := by omega
            have HD := Lib.hid hday
            clear hN hday
            go_wp2_with (go_at_call 72; refine (hdk _).mono ?_; rintro e w' ⟨rfl, rfl⟩)
            exact bodyPost_ret (v := .tuple #[.int .i64 y, .int .i64 m, .int .i64 (n + 719162 - befI y - cumI y m + 1), .int .i64 0]) (by simp [results, Tryd.results52, go_sem]) rfl ⟨by rw [HD.out], rfl⟩

/-- Whether Seconds accepts. -/
def okTime (y m d hh mi ss : Int) : Bool := okB y m d && decide (0 ≤ hh ∧ hh ≤ 23 ∧ 0 ≤ mi ∧ mi ≤ 59 ∧ 0 ≤ ss ∧ ss ≤ 59)
def secV (y m d hh mi ss : Int) : Int × Int := if okTime y m d hh mi ss then (numI y m d * 86400 + (hh * 3600 + mi * 60 + ss), 0) else (0, 3)
theorem secV_bd (y m d hh mi ss : Int) (h : (secV y m d hh mi ss).2 = 0) : -62135596800 ≤ (secV y m d hh mi ss).1 ∧ (secV y m d hh mi ss).1 ≤ 253402300799 := by
  unfold secV at h ⊢
  rcases hk : okTime y m d hh mi ss with _ | _
  · rw [hk] at h; simp at h
  · simp only [if_true]
    unfold okTime at hk
    rw [Bool.and_eq_true, decide_eq_true_eq] at hk
    have := num_bd y m d ((okB_iff y m d).1 hk.1)
    omega
set_option maxHeartbeats 2000000 in
theorem cref_Seconds (y m d hh mi ss : Int) (w : World) :
    Calls Tryd.prog 18 #[.int .i64 y, .int .i64 m, .int .i64 d, .int .i64 hh, .int .i64 mi, .int .i64 ss] w fun e w' => e = .returned (.tuple #[.int .i64 (secV y m d hh mi ss).1, .int .i64 (secV y m d hh mi ss).2]) ∧ w = w' := by
  have hc := cref_Days y m d
  rcases hok : okB y m d with _ | _
  · have hs : secV y m d hh mi ss = (0, 3) := by unfold secV okTime; rw [hok]; rfl
    have hd : daysV y m d = (0, 3) := by unfold daysV; rw [hok]; rfl
    rw [hd] at hc
    rw [hs]
    clear hs hd hok
    go_enter Tryd.func18, Tryd.ntmps18
    go_wp2_with (go_at_call 48; refine (hc _).mono ?_; rintro e w' ⟨rfl, rfl⟩)
    all_goals go_ret2
    all_goals exact ⟨rfl, rfl⟩
  · have hd : daysV y m d = (numI y m d, 0) := by unfold daysV; rw [hok]; rfl
    have hb := num_bd y m d ((okB_iff y m d).1 hok)
    rw [hd] at hc
    clear hd
    by_cases ht : 0 ≤ hh ∧ hh ≤ 23 ∧ 0 ≤ mi ∧ mi ≤ 59 ∧ 0 ≤ ss ∧ ss ≤ 59
    · have hs : secV y m d hh mi ss = (numI y m d * 86400 + (hh * 3600 + mi * 60 + ss), 0) := by unfold secV okTime; rw [hok, decide_eq_true ht]; rfl
      rw [hs]
      obtain ⟨t1, t2, t3, t4, t5, t6⟩ := ht
      obtain ⟨_, _, hb3, hb4⟩ := hb
      generalize numI y m d = n at *
      clear hs hok
      go_enter Tryd.func18, Tryd.ntmps18
      go_wp2_with (go_at_call 48; refine (hc _).mono ?_; rintro e w' ⟨rfl, rfl⟩)
      all_goals go_ret2
      all_goals exact ⟨rfl, rfl⟩
    · have hs : secV y m d hh mi ss = (0, 3) := by unfold secV okTime; rw [hok, decide_eq_false ht]; rfl
      rw [hs]
      generalize numI y m d = n at *
      clear hs hok hb
      rcases (by omega : hh < 0 ∨ (0 ≤ hh ∧ 23 < hh) ∨ (0 ≤ hh ∧ hh ≤ 23 ∧ mi < 0) ∨ (0 ≤ hh ∧ hh ≤ 23 ∧ 0 ≤ mi ∧ 59 < mi) ∨ (0 ≤ hh ∧ hh ≤ 23 ∧ 0 ≤ mi ∧ mi ≤ 59 ∧ ss < 0) ∨ (0 ≤ hh ∧ hh ≤ 23 ∧ 0 ≤ mi ∧ mi ≤ 59 ∧ 0 ≤ ss ∧ 59 < ss)) with a | ⟨a, b⟩ | ⟨a, b, c⟩ | ⟨a, b, c, f⟩ | ⟨a, b, c, f, g⟩ | ⟨a, b, c, f, g, h⟩
      all_goals
        clear ht
        go_enter Tryd.func18, Tryd.ntmps18
        go_wp2_with (go_at_call 48; refine (hc _).mono ?_; rintro e w' ⟨rfl, rfl⟩)
        all_goals go_ret2
        all_goals exact ⟨rfl, rfl⟩
end Go.Proofs.YtdbpkggjnmapiaaDoor
