/- The walks of the laws of layer 2: each returns true for every input and changes nothing that was there.
   They lean on seven contracts of package civil's own functions (the text CivD): civ_Leap, civ_DaysIn, civ_Days, civ_Date_yes, civ_Date_no, civ_Weekday, civ_Seconds, each in every world that meets CivT. -/
import Derived.Test.YtmpodplijalhmaaDoorCivD
namespace Go.Proofs.YtmpodplijalhmaaDoor
open Go.RowKit

theorem ok2000 : daysV 2000 3 1 = (11017, 0) := by decide
theorem ok1900 : daysV 1900 2 29 = (0, 3) := by decide
theorem ok19000 : okDate 2022 1 8 ∧ numI 2022 1 8 = 19000 := ⟨(okB_iff 2022 1 8).1 (by decide), by decide⟩
theorem ok1970 : secV 1970 1 2 0 1 1 = (86461, 0) := by decide
theorem wk19000 : (if inDays 19000 then ((19000 : Int) + 719163) % 7 else 0) = 6 ∧ (if inDays 19000 then (0 : Int) else 3) = 0 := by decide
theorem lp2000 : lpB 2000 = true := by decide
theorem dim2001 : dimI 2001 2 = 28 := by decide

set_option maxRecDepth 100000 in
set_option maxHeartbeats 4000000 in
theorem civ_alive (w : World) (hT : CivT w) :
    Calls Tryd.prog 9 #[] w fun e w' => e = .returned (.bool true) ∧ Below w.heap.size w w' := by
  have c1 : ∀ wx, CivT wx → _ := fun wx => civ_Days 2000 3 1 wx
  have c2 : ∀ wx, CivT wx → _ := fun wx => civ_Date_yes 2022 1 8 wx ok19000.1
  have c3 : ∀ wx, CivT wx → _ := fun wx => civ_Weekday 19000 wx
  have c4 : ∀ wx, CivT wx → _ := fun wx => civ_Days 1900 2 29 wx
  have c5 : ∀ wx, CivT wx → _ := fun wx => civ_Seconds 1970 1 2 0 1 1 wx
  have c6 : ∀ wx, CivT wx → _ := fun wx => civ_Leap 2000 wx
  have c7 : ∀ wx, CivT wx → _ := fun wx => civ_DaysIn 2001 2 wx
  rw [ok2000] at c1
  rw [ok19000.2] at c2
  rw [wk19000.1, wk19000.2] at c3
  rw [ok1900] at c4
  rw [ok1970] at c5
  rw [lp2000] at c6
  rw [dim2001] at c7
  go_enter Tryd.func9, Tryd.ntmps9
  go_wp2_with fail
  refine (c1 _ hT).mono ?_
  rintro e w1 ⟨rfl, b1⟩
  have t1 := CivT_below hT b1
  go_wp2_with fail
  refine (c2 _ t1).mono ?_
  rintro e w2 ⟨rfl, b2⟩
  have t2 := CivT_below t1 b2
  go_wp2_with fail
  refine (c3 _ t2).mono ?_
  rintro e w3 ⟨rfl, b3⟩
  have t3 := CivT_below t2 b3
  go_wp2_with fail
  refine (c4 _ t3).mono ?_
  rintro e w4 ⟨rfl, b4⟩
  have t4 := CivT_below t3 b4
  go_wp2_with fail
  refine (c5 _ t4).mono ?_
  rintro e w5 ⟨rfl, b5⟩
  have t5 := CivT_below t4 b5
  go_wp2_with fail
  refine (c6 _ t5).mono ?_
  rintro e w6 ⟨rfl, b6⟩
  have t6 := CivT_below t5 b6
  go_wp2_with fail
  refine (c7 _ t6).mono ?_
  rintro e w7 ⟨rfl, b7⟩
  go_wp2
  go_ret
  have s_b1 := b1.size; have s_b2 := b2.size; have s_b3 := b3.size; have s_b4 := b4.size; have s_b5 := b5.size; have s_b6 := b6.size
  exact ⟨rfl, ((((((b1).trans (b2.mono (by omega))).trans (b3.mono (by omega))).trans (b4.mono (by omega))).trans (b5.mono (by omega))).trans (b6.mono (by omega))).trans (b7.mono (by omega))⟩

set_option maxRecDepth 100000 in
set_option maxHeartbeats 2000000 in
theorem walk_CivilYears (y m : Int) (w : World) (hT : CivT w) :
    Calls Tryd.prog 3 #[.int .i64 y, .int .i64 m] w fun e w' => e = .returned (.bool true) ∧ Below w.heap.size w w' := by
  have c1 : ∀ wx, CivT wx → _ := fun wx => civ_Leap y wx
  have c2 := cref_Leap y
  have c3 : ∀ wx, CivT wx → _ := fun wx => civ_DaysIn y m wx
  have c4 := cref_DaysIn y m
  generalize lpB y = v at c1 c2
  generalize dimI y m = D at c3 c4
  go_enter Tryd.func3, Tryd.ntmps3
  go_wp2_with fail
  refine (civ_alive _ hT).mono ?_
  rintro e w1 ⟨rfl, b1⟩
  have t1 := CivT_below hT b1
  go_wp2_with fail
  refine (c1 _ t1).mono ?_
  rintro e w2 ⟨rfl, b2⟩
  have t2 := CivT_below t1 b2
  go_wp2_with fail
  refine (c2 _).mono ?_
  rintro e w3 ⟨rfl, rfl⟩
  go_wp2_with fail
  refine (c3 _ t2).mono ?_
  rintro e w4 ⟨rfl, b4⟩
  go_wp2_with fail
  refine (c4 _).mono ?_
  rintro e w5 ⟨rfl, rfl⟩
  go_wp2
  go_ret
  have s_b1 := b1.size; have s_b2 := b2.size
  exact ⟨by simp, ((b1).trans (b2.mono (by omega))).trans (b4.mono (by omega))⟩

set_option maxRecDepth 100000 in
set_option maxHeartbeats 2000000 in
theorem walk_CivilDays (y m d : Int) (w : World) (hT : CivT w) :
    Calls Tryd.prog 4 #[.int .i64 y, .int .i64 m, .int .i64 d] w fun e w' => e = .returned (.bool true) ∧ Below w.heap.size w w' := by
  have c1 : ∀ wx, CivT wx → _ := fun wx => civ_Days y m d wx
  have c2 := cref_Days y m d
  rcases hok : okB y m d with _ | _
  · have hd : daysV y m d = (0, 3) := by unfold daysV; rw [hok]; rfl
    rw [hd] at c1 c2
    clear hd hok
    go_enter Tryd.func4, Tryd.ntmps4
    go_wp2_with fail
    refine (c1 _ hT).mono ?_
    rintro e w1 ⟨rfl, b1⟩
    have t1 := CivT_below hT b1
    go_wp2_with fail
    refine (c2 _).mono ?_
    rintro e w2 ⟨rfl, rfl⟩
    go_wp2_with fail
    refine (civ_alive _ t1).mono ?_
    rintro e w3 ⟨rfl, b3⟩
    go_wp2
    go_ret
    have s_b1 := b1.size
    exact ⟨rfl, (b1).trans (b3.mono (by omega))⟩
  · have hd : daysV y m d = (numI y m d, 0) := by unfold daysV; rw [hok]; rfl
    rw [hd] at c1 c2
    have c3 : ∀ wx, CivT wx → _ := fun wx => civ_Date_yes y m d wx ((okB_iff y m d).1 hok)
    generalize numI y m d = n at c1 c2 c3
    clear hd hok
    go_enter Tryd.func4, Tryd.ntmps4
    go_wp2_with fail
    refine (c1 _ hT).mono ?_
    rintro e w1 ⟨rfl, b1⟩
    have t1 := CivT_below hT b1
    go_wp2_with fail
    refine (c2 _).mono ?_
    rintro e w2 ⟨rfl, rfl⟩
    go_wp2_with fail
    refine (c3 _ t1).mono ?_
    rintro e w3 ⟨rfl, b3⟩
    have t3 := CivT_below t1 b3
    go_wp2_with fail
    refine (civ_alive _ t3).mono ?_
    rintro e w4 ⟨rfl, b4⟩
    go_wp2
    go_ret
    have s_b1 := b1.size; have s_b3 := b3.size
    exact ⟨by simp, ((b1).trans (b3.mono (by omega))).trans (b4.mono (by omega))⟩

set_option maxRecDepth 100000 in
set_option maxHeartbeats 2000000 in
theorem walk_CivilDate (n : Int) (w : World) (hT : CivT w) :
    Calls Tryd.prog 5 #[.int .i64 n] w fun e w' => e = .returned (.bool true) ∧ Below w.heap.size w w' := by
  have c3 : ∀ wx, CivT wx → _ := fun wx => civ_Weekday n wx
  have c4 := cref_Weekday n
  by_cases hin : -719162 ≤ n ∧ n ≤ 2932896
  · obtain ⟨y, m, d, hv, rfl⟩ := date_exists n hin.1 hin.2
    have c1 : ∀ wx, CivT wx → _ := fun wx => civ_Date_yes y m d wx hv
    have c2 : ∀ wx, _ := fun wx => cref_Date_yes y m d wx hv
    have c5 : ∀ wx, CivT wx → _ := fun wx => civ_Days y m d wx
    have hd : daysV y m d = (numI y m d, 0) := by unfold daysV; rw [(okB_iff y m d).2 hv]; rfl
    rw [hd] at c5
    generalize numI y m d = n at *
    rw [show inDays n = true from decide_eq_true hin] at c3 c4
    simp only [if_true] at c3 c4
    generalize (n + 719163) % 7 = k at c3 c4
    clear hd hv hin
    go_enter Tryd.func5, Tryd.ntmps5
    go_wp2_with fail
    refine (c1 _ hT).mono ?_
    rintro e w1 ⟨rfl, b1⟩
    have t1 := CivT_below hT b1
    go_wp2_with fail
    refine (c2 _).mono ?_
    rintro e w2 ⟨rfl, rfl⟩
    go_wp2_with fail
    refine (c3 _ t1).mono ?_
    rintro e w3 ⟨rfl, b3⟩
    have t3 := CivT_below t1 b3
    go_wp2_with fail
    refine (c4 _).mono ?_
    rintro e w4 ⟨rfl, rfl⟩
    go_wp2_with fail
    refine (c5 _ t3).mono ?_
    rintro e w5 ⟨rfl, b5⟩
    have t5 := CivT_below t3 b5
    go_wp2_with fail
    refine (civ_alive _ t5).mono ?_
    rintro e w6 ⟨rfl, b6⟩
    go_wp2
    go_ret
    have s_b1 := b1.size; have s_b3 := b3.size; have s_b5 := b5.size
    exact ⟨by simp, (((b1).trans (b3.mono (by omega))).trans (b5.mono (by omega))).trans (b6.mono (by omega))⟩
  · have ho : n < -719162 ∨ 2932896 < n := by omega
    have c1 : ∀ wx, CivT wx → _ := fun wx => civ_Date_no n wx ho
    have c2 : ∀ wx, _ := fun wx => cref_Date_no n wx ho
    rw [show inDays n = false from decide_eq_false hin] at c3 c4
    simp only [Bool.false_eq_true, if_false] at c3 c4
    clear hin ho
    go_enter Tryd.func5, Tryd.ntmps5
    go_wp2_with fail
    refine (c1 _ hT).mono ?_
    rintro e w1 ⟨rfl, b1⟩
    have t1 := CivT_below hT b1
    go_wp2_with fail
    refine (c2 _).mono ?_
    rintro e w2 ⟨rfl, rfl⟩
    go_wp2_with fail
    refine (c3 _ t1).mono ?_
    rintro e w3 ⟨rfl, b3⟩
    have t3 := CivT_below t1 b3
    go_wp2_with fail
    refine (c4 _).mono ?_
    rintro e w4 ⟨rfl, rfl⟩
    go_wp2_with fail
    refine (civ_alive _ t3).mono ?_
    rintro e w6 ⟨rfl, b6⟩
    go_wp2
    go_ret
    have s_b1 := b1.size; have s_b3 := b3.size
    exact ⟨rfl, ((b1).trans (b3.mono (by omega))).trans (b6.mono (by omega))⟩
end Go.Proofs.YtmpodplijalhmaaDoor
