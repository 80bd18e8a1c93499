/- The walks of three more laws of layer 2: the next day, seconds, four centuries. -/
import Derived.Test.YtmpodplijalhmaaDoorCivL
namespace Go.Proofs.YtmpodplijalhmaaDoor
open Go.RowKit

/-- The day behind a date that is not the last one. -/
theorem next_date {y m d : Int} (h : okDate y m d) (hn : numI y m d < 2932896) :
    (d < dimI y m ∧ okDate y m (d + 1) ∧ numI y m (d + 1) = numI y m d + 1) ∨
    (¬ d < dimI y m ∧ m < 12 ∧ okDate y (m + 1) 1 ∧ numI y (m + 1) 1 = numI y m d + 1) ∨
    (¬ d < dimI y m ∧ ¬ m < 12 ∧ okDate (y + 1) 1 1 ∧ numI (y + 1) 1 1 = numI y m d + 1) := by
  obtain ⟨a, b, c, f, g, i⟩ := h
  by_cases h1 : d < dimI y m
  · exact .inl ⟨h1, ⟨a, b, c, f, by omega, by omega⟩, by unfold numI; omega⟩
  · right
    have hcs := cum_succ y m ⟨a, b⟩ ⟨c, f⟩
    by_cases h2 : m < 12
    · have := dim_lo y (m + 1) ⟨a, b, by omega, by omega⟩
      exact .inl ⟨h1, h2, ⟨a, b, by omega, by omega, by omega, by omega⟩, by unfold numI; rw [hcs]; omega⟩
    · have h3 : m = 12 := by omega
      subst h3
      have hbs := bef_succ y a
      have h13 := cum_13 y
      rw [show (12 : Int) + 1 = 13 from rfl, h13] at hcs
      have hy : y < 9999 := by
        rcases (by omega : y < 9999 ∨ y = 9999) with h | h
        · exact h
        · subst h
          have e1 : befI 9999 = 3651694 := by decide
          have e2 : lpI 9999 = 0 := by decide
          unfold numI at hn
          omega
      have := dim_lo (y + 1) 1 ⟨by omega, by omega, by omega, by omega⟩
      exact .inr ⟨h1, h2, ⟨by omega, by omega, by omega, by omega, by omega, by omega⟩, by unfold numI; rw [cum_one, hbs]; omega⟩

set_option maxRecDepth 100000 in
set_option maxHeartbeats 4000000 in
theorem walk_CivilNext (n : Int) (w : World) (hT : CivT w) :
    Calls Tryd.prog 6 #[.int .i64 n] w fun e w' => e = .returned (.bool true) ∧ Below w.heap.size w w' := by
  by_cases hout : n < -719162 ∨ 2932896 ≤ n
  · rcases hout with h | h
    · go_enter Tryd.func6, Tryd.ntmps6
      go_wp2_with fail
      refine (civ_alive _ hT).mono ?_
      rintro e w1 ⟨rfl, b1⟩
      go_wp2
      go_ret
      exact ⟨rfl, b1⟩
    · have h' : ¬ n < -719162 := by omega
      go_enter Tryd.func6, Tryd.ntmps6
      go_wp2_with fail
      refine (civ_alive _ hT).mono ?_
      rintro e w1 ⟨rfl, b1⟩
      go_wp2
      go_ret
      exact ⟨rfl, b1⟩
  have hlo : ¬ n < -719162 := by omega
  have hhi : ¬ 2932896 ≤ n := by omega
  obtain ⟨y, m, d, hv, hnum⟩ := date_exists n (by omega) (by omega)
  have hnx := next_date hv (by omega)
  have hdb := dim_bd y m
  have hvb := hv
  obtain ⟨v1, v2, v3, v4, v5, v6⟩ := hvb
  have c1 : ∀ wx, CivT wx → _ := fun wx => civ_Date_yes y m d wx hv
  have c3 : ∀ wx, CivT wx → _ := fun wx => civ_Weekday n wx
  have c4 : ∀ wx, CivT wx → _ := fun wx => civ_Weekday (n + 1) wx
  have c5 : ∀ wx, CivT wx → _ := fun wx => civ_DaysIn y m wx
  rw [show inDays n = true from decide_eq_true (by omega)] at c3
  rw [show inDays (n + 1) = true from decide_eq_true (by omega)] at c4
  simp only [if_true] at c3 c4
  rw [show (n + 1 + 719163) % 7 = ((n + 719163) % 7 + 1) % 7 by omega] at c4
  have hk : 0 ≤ (n + 719163) % 7 ∧ (n + 719163) % 7 ≤ 6 := by omega
  generalize (n + 719163) % 7 = k at c3 c4 hk
  obtain ⟨hk0, hk6⟩ := hk
  generalize dimI y m = D at hnx hdb v6 c5
  rw [hnum] at c1
  rcases hnx with ⟨h1, h2, h3⟩ | ⟨h1, h1b, h2, h3⟩ | ⟨h1, h1b, h2, h3⟩
  · have c2 : ∀ wx, CivT wx → _ := fun wx => civ_Date_yes y m (d + 1) wx h2
    rw [h3, hnum] at c2
    clear h2 h3 hv hnum
    go_enter Tryd.func6, Tryd.ntmps6
    go_wp2_with fail
    refine (c1 _ hT).mono ?_
    rintro e w1 ⟨rfl, b1⟩
    have t1 := CivT_below hT b1
    go_wp2_with fail
    refine (c2 _ t1).mono ?_
    rintro e w2 ⟨rfl, b2⟩
    have t2 := CivT_below t1 b2
    go_wp2_with fail
    refine (c3 _ t2).mono ?_
    rintro e w3 ⟨rfl, b3⟩
    have t3 := CivT_below t2 b3
    go_wp2_with fail
    refine (c4 _ t3).mono ?_
    rintro e w4 ⟨rfl, b4⟩
    have t4 := CivT_below t3 b4
    go_wp2_with fail
    refine (c5 _ t4).mono ?_
    rintro e w5 ⟨rfl, b5⟩
    have t5 := CivT_below t4 b5
    go_wp2_with fail
    refine (civ_alive _ t5).mono ?_
    rintro e w6 ⟨rfl, b6⟩
    go_wp2
    go_ret
    have s_b1 := b1.size; have s_b2 := b2.size; have s_b3 := b3.size; have s_b4 := b4.size; have s_b5 := b5.size
    exact ⟨by simp, (((((b1).trans (b2.mono (by omega))).trans (b3.mono (by omega))).trans (b4.mono (by omega))).trans (b5.mono (by omega))).trans (b6.mono (by omega))⟩
  · have c2 : ∀ wx, CivT wx → _ := fun wx => civ_Date_yes y (m + 1) 1 wx h2
    rw [h3, hnum] at c2
    clear h2 h3 hv hnum
    go_enter Tryd.func6, Tryd.ntmps6
    go_wp2_with fail
    refine (c1 _ hT).mono ?_
    rintro e w1 ⟨rfl, b1⟩
    have t1 := CivT_below hT b1
    go_wp2_with fail
    refine (c2 _ t1).mono ?_
    rintro e w2 ⟨rfl, b2⟩
    have t2 := CivT_below t1 b2
    go_wp2_with fail
    refine (c3 _ t2).mono ?_
    rintro e w3 ⟨rfl, b3⟩
    have t3 := CivT_below t2 b3
    go_wp2_with fail
    refine (c4 _ t3).mono ?_
    rintro e w4 ⟨rfl, b4⟩
    have t4 := CivT_below t3 b4
    go_wp2_with fail
    refine (c5 _ t4).mono ?_
    rintro e w5 ⟨rfl, b5⟩
    have t5 := CivT_below t4 b5
    go_wp2_with fail
    refine (civ_alive _ t5).mono ?_
    rintro e w6 ⟨rfl, b6⟩
    go_wp2
    go_ret
    have s_b1 := b1.size; have s_b2 := b2.size; have s_b3 := b3.size; have s_b4 := b4.size; have s_b5 := b5.size
    exact ⟨by simp, (((((b1).trans (b2.mono (by omega))).trans (b3.mono (by omega))).trans (b4.mono (by omega))).trans (b5.mono (by omega))).trans (b6.mono (by omega))⟩
  · have c2 : ∀ wx, CivT wx → _ := fun wx => civ_Date_yes (y + 1) 1 1 wx h2
    rw [h3, hnum] at c2
    clear h2 h3 hv hnum
    go_enter Tryd.func6, Tryd.ntmps6
    go_wp2_with fail
    refine (c1 _ hT).mono ?_
    rintro e w1 ⟨rfl, b1⟩
    have t1 := CivT_below hT b1
    go_wp2_with fail
    refine (c2 _ t1).mono ?_
    rintro e w2 ⟨rfl, b2⟩
    have t2 := CivT_below t1 b2
    go_wp2_with fail
    refine (c3 _ t2).mono ?_
    rintro e w3 ⟨rfl, b3⟩
    have t3 := CivT_below t2 b3
    go_wp2_with fail
    refine (c4 _ t3).mono ?_
    rintro e w4 ⟨rfl, b4⟩
    have t4 := CivT_below t3 b4
    go_wp2_with fail
    refine (c5 _ t4).mono ?_
    rintro e w5 ⟨rfl, b5⟩
    have t5 := CivT_below t4 b5
    go_wp2_with fail
    refine (civ_alive _ t5).mono ?_
    rintro e w6 ⟨rfl, b6⟩
    go_wp2
    go_ret
    have s_b1 := b1.size; have s_b2 := b2.size; have s_b3 := b3.size; have s_b4 := b4.size; have s_b5 := b5.size
    exact ⟨by simp, (((((b1).trans (b2.mono (by omega))).trans (b3.mono (by omega))).trans (b4.mono (by omega))).trans (b5.mono (by omega))).trans (b6.mono (by omega))⟩

set_option maxRecDepth 100000 in
set_option maxHeartbeats 2000000 in
theorem walk_CivilSeconds (y m d hh mi ss : Int) (w : World) (hT : CivT w) :
    Calls Tryd.prog 7 #[.agg #[.int .i64 y, .int .i64 m, .int .i64 d], .agg #[.int .i64 hh, .int .i64 mi, .int .i64 ss]] w fun e w' => e = .returned (.bool true) ∧ Below w.heap.size w w' := by
  have c1 : ∀ wx, CivT wx → _ := fun wx => civ_Seconds y m d hh mi ss wx
  have c2 := cref_Seconds y m d hh mi ss
  have hbd := secV_bd y m d hh mi ss
  have hor : (secV y m d hh mi ss).2 = 0 ∨ (secV y m d hh mi ss).2 = 3 := by unfold secV; split <;> simp
  generalize secV y m d hh mi ss = v at c1 c2 hbd hor
  obtain ⟨s, f⟩ := v
  simp only at c1 c2 hbd hor
  have b0 : Below w.heap.size w ((w.alloc (.cells #[.int .i64 y, .int .i64 m, .int .i64 d] 41)).alloc (.cells #[.int .i64 hh, .int .i64 mi, .int .i64 ss] 41)) := ((Below.refl _ _).alloc (Nat.le_refl _) _).alloc (by simp) _
  have t0 := CivT_below hT b0
  rcases hor with rfl | rfl
  · obtain ⟨hb1, hb2⟩ := hbd rfl
    clear hbd
    go_enter Tryd.func7, Tryd.ntmps7
    go_wp2_with fail
    refine (c1 _ t0).mono ?_
    rintro e w1 ⟨rfl, b1⟩
    have cb : ∀ b o, b < w.heap.size + 2 → w1.cell? ⟨b, o, none⟩ = ((w.alloc (.cells #[.int .i64 y, .int .i64 m, .int .i64 d] 41)).alloc (.cells #[.int .i64 hh, .int .i64 mi, .int .i64 ss] 41)).cell? ⟨b, o, none⟩ := fun b o h => b1.cell (p := ⟨b, o, none⟩) (by simp; omega)
    have e00 : w1.cell? ⟨w.heap.size, 0, none⟩ = some (.int .i64 y) := by rw [cb _ _ (by omega)]; simp
    have e01 : w1.cell? ⟨w.heap.size, 1, none⟩ = some (.int .i64 m) := by rw [cb _ _ (by omega)]; simp
    have e02 : w1.cell? ⟨w.heap.size, 2, none⟩ = some (.int .i64 d) := by rw [cb _ _ (by omega)]; simp
    have e10 : w1.cell? ⟨w.heap.size + 1, 0, none⟩ = some (.int .i64 hh) := by rw [cb _ _ (by omega)]; simp
    have e11 : w1.cell? ⟨w.heap.size + 1, 1, none⟩ = some (.int .i64 mi) := by rw [cb _ _ (by omega)]; simp
    have e12 : w1.cell? ⟨w.heap.size + 1, 2, none⟩ = some (.int .i64 ss) := by rw [cb _ _ (by omega)]; simp
    have t1 := CivT_below t0 b1
    clear cb
    go_wp2_with fail
    refine (c2 _).mono ?_
    rintro e w2 ⟨rfl, rfl⟩
    go_wp2_with fail
    refine (civ_alive _ t1).mono ?_
    rintro e w3 ⟨rfl, b3⟩
    go_wp2
    go_ret
    have s0 := b0.size; have s1 := b1.size
    exact ⟨by simp, (b0.trans (b1.mono (by omega))).trans (b3.mono (by omega))⟩
  · clear hbd
    go_enter Tryd.func7, Tryd.ntmps7
    go_wp2_with fail
    refine (c1 _ t0).mono ?_
    rintro e w1 ⟨rfl, b1⟩
    have cb : ∀ b o, b < w.heap.size + 2 → w1.cell? ⟨b, o, none⟩ = ((w.alloc (.cells #[.int .i64 y, .int .i64 m, .int .i64 d] 41)).alloc (.cells #[.int .i64 hh, .int .i64 mi, .int .i64 ss] 41)).cell? ⟨b, o, none⟩ := fun b o h => b1.cell (p := ⟨b, o, none⟩) (by simp; omega)
    have e00 : w1.cell? ⟨w.heap.size, 0, none⟩ = some (.int .i64 y) := by rw [cb _ _ (by omega)]; simp
    have e01 : w1.cell? ⟨w.heap.size, 1, none⟩ = some (.int .i64 m) := by rw [cb _ _ (by omega)]; simp
    have e02 : w1.cell? ⟨w.heap.size, 2, none⟩ = some (.int .i64 d) := by rw [cb _ _ (by omega)]; simp
    have e10 : w1.cell? ⟨w.heap.size + 1, 0, none⟩ = some (.int .i64 hh) := by rw [cb _ _ (by omega)]; simp
    have e11 : w1.cell? ⟨w.heap.size + 1, 1, none⟩ = some (.int .i64 mi) := by rw [cb _ _ (by omega)]; simp
    have e12 : w1.cell? ⟨w.heap.size + 1, 2, none⟩ = some (.int .i64 ss) := by rw [cb _ _ (by omega)]; simp
    have t1 := CivT_below t0 b1
    clear cb
    go_wp2_with fail
    refine (c2 _).mono ?_
    rintro e w2 ⟨rfl, rfl⟩
    go_wp2_with fail
    refine (civ_alive _ t1).mono ?_
    rintro e w3 ⟨rfl, b3⟩
    go_wp2
    go_ret
    have s0 := b0.size; have s1 := b1.size
    exact ⟨by simp, (b0.trans (b1.mono (by omega))).trans (b3.mono (by omega))⟩

set_option maxRecDepth 100000 in
set_option maxHeartbeats 2000000 in
theorem walk_CivilCycle (y m d : Int) (w : World) (hT : CivT w) :
    Calls Tryd.prog 8 #[.int .i64 y, .int .i64 m, .int .i64 d] w fun e w' => e = .returned (.bool true) ∧ Below w.heap.size w w' := by
  by_cases hout : y < 1 ∨ 9599 < y
  · rcases hout with h | h
    · go_enter Tryd.func8, Tryd.ntmps8
      go_wp2_with fail
      refine (civ_alive _ hT).mono ?_
      rintro e w1 ⟨rfl, b1⟩
      go_wp2
      go_ret
      exact ⟨rfl, b1⟩
    · have h' : ¬ y < 1 := by omega
      go_enter Tryd.func8, Tryd.ntmps8
      go_wp2_with fail
      refine (civ_alive _ hT).mono ?_
      rintro e w1 ⟨rfl, b1⟩
      go_wp2
      go_ret
      exact ⟨rfl, b1⟩
  have hy1 : ¬ y < 1 := by omega
  have hy2 : ¬ 9599 < y := by omega
  have hdim : dimI (y + 400) m = dimI y m := by
    have hl : lpI (y + 400) = lpI y := by unfold lpI; congr 1; apply propext; omega
    by_cases h : 1 ≤ m ∧ m ≤ 12
    · rw [dim_eq (y + 400) m (by omega) h, dim_eq y m (by omega) h, hl]
    · rw [dim_out (y + 400) m (by omega), dim_out y m (by omega)]
  have hok4 : okB (y + 400) m d = okB y m d := by unfold okB; rw [hdim]
  have hnum : numI (y + 400) m d = numI y m d + 146097 := by
    have hl : lpI (y + 400) = lpI y := by unfold lpI; congr 1; apply propext; omega
    unfold numI cumI befI
    rw [hl]; omega
  have c1 : ∀ wx, CivT wx → _ := fun wx => civ_Days y m d wx
  have c2 : ∀ wx, CivT wx → _ := fun wx => civ_Days (y + 400) m d wx
  rcases hok : okB y m d with _ | _
  · have hd : daysV y m d = (0, 3) := by unfold daysV; rw [hok]; rfl
    have hd4 : daysV (y + 400) m d = (0, 3) := by unfold daysV; rw [hok4, hok]; rfl
    rw [hd] at c1
    rw [hd4] at c2
    clear hd hd4 hok hok4 hnum hdim
    go_enter Tryd.func8, Tryd.ntmps8
    go_wp2_with fail
    refine (c1 _ hT).mono ?_
    rintro e w1 ⟨rfl, b1⟩
    have t1 := CivT_below hT b1
    go_wp2_with fail
    refine (c2 _ t1).mono ?_
    rintro e w2 ⟨rfl, b2⟩
    have t2 := CivT_below t1 b2
    go_wp2_with fail
    refine (civ_alive _ t2).mono ?_
    rintro e w3 ⟨rfl, b3⟩
    go_wp2
    go_ret
    have s_b1 := b1.size; have s_b2 := b2.size
    exact ⟨rfl, ((b1).trans (b2.mono (by omega))).trans (b3.mono (by omega))⟩
  · have hd : daysV y m d = (numI y m d, 0) := by unfold daysV; rw [hok]; rfl
    have hd4 : daysV (y + 400) m d = (numI y m d + 146097, 0) := by unfold daysV; rw [hok4, hok, hnum]; rfl
    have nb1 := num_bd y m d ((okB_iff y m d).1 hok)
    have nb2 := num_bd (y + 400) m d ((okB_iff (y + 400) m d).1 (by rw [hok4]; exact hok))
    rw [hnum] at nb2
    obtain ⟨_, _, n1, n2⟩ := nb1
    obtain ⟨_, _, n3, n4⟩ := nb2
    rw [hd] at c1
    rw [hd4] at c2
    generalize numI y m d = n at *
    have c3 : ∀ wx, CivT wx → _ := fun wx => civ_Weekday n wx
    have c4 : ∀ wx, CivT wx → _ := fun wx => civ_Weekday (n + 146097) wx
    rw [show inDays n = true from decide_eq_true ⟨n1, n2⟩] at c3
    rw [show inDays (n + 146097) = true from decide_eq_true ⟨n3, n4⟩] at c4
    simp only [if_true] at c3 c4
    rw [show (n + 146097 + 719163) % 7 = (n + 719163) % 7 by omega] at c4
    generalize (n + 719163) % 7 = k at c3 c4
    clear hd hd4 hok hok4 hnum hdim
    go_enter Tryd.func8, Tryd.ntmps8
    go_wp2_with fail
    refine (c1 _ hT).mono ?_
    rintro e w1 ⟨rfl, b1⟩
    have t1 := CivT_below hT b1
    go_wp2_with fail
    refine (c2 _ t1).mono ?_
    rintro e w2 ⟨rfl, b2⟩
    have t2 := CivT_below t1 b2
    go_wp2_with fail
    refine (c3 _ t2).mono ?_
    rintro e w3 ⟨rfl, b3⟩
    have t3 := CivT_below t2 b3
    go_wp2_with fail
    refine (c4 _ t3).mono ?_
    rintro e w4 ⟨rfl, b4⟩
    have t4 := CivT_below t3 b4
    go_wp2_with fail
    refine (civ_alive _ t4).mono ?_
    rintro e w5 ⟨rfl, b5⟩
    go_wp2
    go_ret
    have s_b1 := b1.size; have s_b2 := b2.size; have s_b3 := b3.size; have s_b4 := b4.size
    exact ⟨by simp, ((((b1).trans (b2.mono (by omega))).trans (b3.mono (by omega))).trans (b4.mono (by omega))).trans (b5.mono (by omega))⟩
end Go.Proofs.YtmpodplijalhmaaDoor
