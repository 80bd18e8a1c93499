/- Package civil: Date and Seconds: what each returns, in every world that holds the two tables. -/
import Derived.Test.YtdbpkggjnmapiaaDoorCivC
namespace Go.Proofs.YtdbpkggjnmapiaaDoor
open Go.RowKit

theorem civ_Date_no (n : Int) (w : World) (h : n < -719162 ∨ 2932896 < n) (_h : CivT w) : Calls Tryd.prog 21 #[.int .i64 n] w fun e w' => e = .returned (.tuple #[.int .i64 0, .int .i64 0, .int .i64 0, .int .i64 3]) ∧ Below w.heap.size w w' := by
  rcases h with h | h
  · go_enter Tryd.func21, Tryd.ntmps21
    go_wp2
    exact bodyPost_ret (v := .tuple #[.int .i64 0, .int .i64 0, .int .i64 0, .int .i64 3]) (by simp [results, Tryd.results21, go_sem]) rfl ⟨rfl, Below.refl _ _⟩
  · have h' : ¬ n < -719162 := by omega
    go_enter Tryd.func21, Tryd.ntmps21
    go_wp2
    exact bodyPost_ret (v := .tuple #[.int .i64 0, .int .i64 0, .int .i64 0, .int .i64 3]) (by simp [results, Tryd.results21, go_sem]) rfl ⟨rfl, Below.refl _ _⟩

set_option maxHeartbeats 4000000 in
theorem civ_Date_yes (y m d : Int) (w : World) (hv : okDate y m d) (hT : CivT w) : Calls Tryd.prog 21 #[.int .i64 (numI y m d)] w fun e w' => e = .returned (.tuple #[.int .i64 y, .int .i64 m, .int .i64 d, .int .i64 0]) ∧ Below w.heap.size w w' := by
  obtain ⟨b1, b2, b3, b4⟩ := num_bd y m d hv
  obtain ⟨v1, v2, v3, v4, v5, v6⟩ := hv
  have hnum : numI y m d = befI y - 719162 + cumI y m + (d - 1) := rfl
  have hsu := bef_succ y v1
  have hc0 := cum_bd y m (by omega)
  have hJ := Jd_bef y
  obtain ⟨r, hr⟩ : ∃ r, r = cumI y m + (d - 1) := ⟨_, rfl⟩
  have hlast : lastOk (y - 1) r := lastOk_of v1 (by omega)
  have harg : numI y m d + 719162 = Jd (y - 1) + r := by omega
  have hr0 : 0 ≤ r := by omega
  have hr9 : r ≤ 365 := lastOk_le hlast
  generalize hn : numI y m d = n at *
  have HR := Lib.hid hr
  clear hnum hn hr hsu b1 b2 hJ
  go_enter Tryd.func21, Tryd.ntmps21
  go_wp2_with fail

  refine (civ_yearsBefore (y - 1) r _ hT (by omega) (by omega) hr0 hlast).mono ?_
  rintro e w1 ⟨rfl, hb1⟩
  have hT1 := CivT_below hT hb1
  have hy1 : 1 + (y - 1) = y := by omega
  clear harg hlast b3 b4
  go_wp2
  (try rw [hy1])
  clear hy1
  go_loop [9, 10] (fun a b => ∃ k : Int, 1 ≤ k ∧ k ≤ m ∧ a = .int .i64 k ∧ b = .int .i64 (r + 1 - cumI y k)) (fun a _ => (m - intOf a).toNat)
  case atStart => exact ⟨1, by omega, v3, rfl, by rw [cum_one, Int.sub_zero]⟩
  case round =>
    obtain ⟨k, hk1, hk2, rfl, rfl⟩ := hrel
    have hcb := cum_bd y k (by omega)
    have hdk := daysIn_same y k w1 hT1
    have hk31 := dim_bd y k
    have hR := HR.out
    by_cases hlt : k < m
    · have hle := cum_le y k m ⟨v1, v2⟩ hk1 hlt (by omega)
      have hcs := cum_succ y k ⟨v1, v2⟩ (by omega)
      have hgt : dimI y k < r + 1 - cumI y k := by omega
      have HS := Lib.hid hcs
      clear hcs hle hR
      go_wp2_with (go_at_call 51; refine (hdk).mono ?_; rintro e w' ⟨rfl, rfl⟩)
      go_round
      case rel => exact ⟨k + 1, by omega, by omega, rfl, by rw [HS.out]; go_num⟩
      case measure => simp [intOf]; omega
    · obtain rfl : k = m := by omega
      have hngt : ¬ dimI y k < r + 1 - cumI y k := by omega
      have hday : r + 1 - cumI y k = d := by omega
      have HD := Lib.hid hday
      clear hR hday
      go_wp2_with (go_at_call 51; refine (hdk).mono ?_; rintro e w' ⟨rfl, rfl⟩)
      exact bodyPost_ret (v := .tuple #[.int .i64 y, .int .i64 k, .int .i64 (r + 1 - cumI y k), .int .i64 0]) (by simp [results, Tryd.results21, go_sem]) rfl ⟨by rw [HD.out], hb1⟩

set_option maxHeartbeats 2000000 in
theorem civ_Seconds (y m d hh mi ss : Int) (w : World) (_h : CivT w) : Calls Tryd.prog 60 #[.int .i64 y, .int .i64 m, .int .i64 d, .int .i64 hh, .int .i64 mi, .int .i64 ss] w fun e w' => e = .returned (.tuple #[.int .i64 (secV y m d hh mi ss).1, .int .i64 (secV y m d hh mi ss).2]) ∧ Below w.heap.size w w' := by
  have hc := civ_Days y m d w _h
  rcases hok : okB y m d with _ | _
  · have hs : secV y m d hh mi ss = (0, 3) := by unfold secV okTime; rw [hok]; rfl
    have hd : daysV y m d = (0, 3) := by unfold daysV; rw [hok]; rfl
    rw [hd] at hc
    rw [hs]
    clear hs hd hok
    go_enter Tryd.func60, Tryd.ntmps60
    go_wp2_with fail
    refine hc.mono ?_
    rintro e w1 ⟨rfl, b1⟩
    go_wp2
    all_goals go_ret2
    all_goals exact ⟨rfl, b1⟩
  · have hd : daysV y m d = (numI y m d, 0) := by unfold daysV; rw [hok]; rfl
    have hb := num_bd y m d ((okB_iff y m d).1 hok)
    rw [hd] at hc
    clear hd
    by_cases ht : 0 ≤ hh ∧ hh ≤ 23 ∧ 0 ≤ mi ∧ mi ≤ 59 ∧ 0 ≤ ss ∧ ss ≤ 59
    · have hs : secV y m d hh mi ss = (numI y m d * 86400 + (hh * 3600 + mi * 60 + ss), 0) := by unfold secV okTime; rw [hok, decide_eq_true ht]; rfl
      rw [hs]
      obtain ⟨t1, t2, t3, t4, t5, t6⟩ := ht
      obtain ⟨_, _, hb3, hb4⟩ := hb
      generalize numI y m d = n at *
      have e : n * 86400 + (hh * 3600 + mi * 60 + ss) = ((n * 24 + hh) * 60 + mi) * 60 + ss := by omega
      rw [e]
      clear hs hok e
      go_enter Tryd.func60, Tryd.ntmps60
      go_wp2_with fail
      refine hc.mono ?_
      rintro e w1 ⟨rfl, b1⟩
      go_wp2
      all_goals go_ret2
      all_goals exact ⟨rfl, b1⟩
    · have hs : secV y m d hh mi ss = (0, 3) := by unfold secV okTime; rw [hok, decide_eq_false ht]; rfl
      rw [hs]
      generalize numI y m d = n at *
      clear hs hok hb
      rcases (by omega : hh < 0 ∨ (0 ≤ hh ∧ 23 < hh) ∨ (0 ≤ hh ∧ hh ≤ 23 ∧ mi < 0) ∨ (0 ≤ hh ∧ hh ≤ 23 ∧ 0 ≤ mi ∧ 59 < mi) ∨ (0 ≤ hh ∧ hh ≤ 23 ∧ 0 ≤ mi ∧ mi ≤ 59 ∧ ss < 0) ∨ (0 ≤ hh ∧ hh ≤ 23 ∧ 0 ≤ mi ∧ mi ≤ 59 ∧ 0 ≤ ss ∧ 59 < ss)) with a | ⟨a, b⟩ | ⟨a, b, c⟩ | ⟨a, b, c, f⟩ | ⟨a, b, c, f, g⟩ | ⟨a, b, c, f, g, h⟩
      all_goals
        clear ht
        go_enter Tryd.func60, Tryd.ntmps60
        go_wp2_with fail
        refine hc.mono ?_
        rintro e w1 ⟨rfl, b1⟩
        go_wp2
        all_goals go_ret2
        all_goals exact ⟨rfl, b1⟩
end Go.Proofs.YtdbpkggjnmapiaaDoor
