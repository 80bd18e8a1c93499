/- The walk of the law of layer 3 that Parse inverts Format. -/
import Derived.Test.YtmcokldninhgdaaDoorDatL
namespace Go.Proofs.YtmcokldninhgdaaDoor
open Go.RowKit

theorem zs_fmt {y m d h mi s : Int} (hv : okDate y m d) (hc : okClock h mi s) : zs (strOfNums (fmtL y m d h mi s)) = fmtL y m d h mi s := zs_str _ (fmtL_byte hv hc)
theorem dat_back {y m d h mi s : Int} (hv : okDate y m d) (hc : okClock h mi s) (w : World) (hT : DatT w) :
    Calls Tryd.prog 12 #[.string (strOfNums (fmtL y m d h mi s))] w fun e w' => e = .returned (.tuple #[.int .i64 (timeI y m d h mi s), .int .i64 0]) ∧ Below w.heap.size w w' := by
  have c := dat_Parse (strOfNums (fmtL y m d h mi s)) w (by rw [str_size, fmtL_length]; omega) hT
  rw [zs_fmt hv hc, parse_fmt hv hc] at c
  exact c

set_option maxRecDepth 100000 in
set_option maxHeartbeats 4000000 in
theorem walk_DatRound (t : Int) (s : ByteArray) (w : World) (hs : s.size ≤ 140737488351232) (hT : DatT w) :
    Calls Tryd.prog 5 #[.int .i64 t, .string s] w fun e w' => e = .returned (.bool true) ∧ Below w.heap.size w w' := by
  by_cases h5 : (5000 : Int) < (s.size : Int)
  · go_enter Tryd.func5, Tryd.ntmps5
    (go_wp2_with fail); (refine (dat_alive _ hT).mono ?_); (rintro e w1 ⟨rfl, b1⟩)
    go_wp2
    go_ret
    exact ⟨rfl, b1⟩
  · have c3 : ∀ wx, DatT wx → _ := fun wx => dat_Parse s wx hs
    have hacc := parse_or (zs s)
    have hin2 : ∀ u, parseL (zs s) = (u, 0) → inTime u = true := fun u h => parse_accepts h
    generalize parseL (zs s) = v at *
    obtain ⟨u, e⟩ := v
    simp only at c3
    have hcases : (inTime u = true ∧ e = 0) ∨ (u = 0 ∧ e = 3) ∨ (u = 0 ∧ e = 20) := by
      rcases hacc with h | h | h
      · simp only [Prod.mk.injEq, true_and] at h
        exact .inl ⟨hin2 u (by rw [h]), h⟩
      · simp only [Prod.mk.injEq] at h; exact .inr (.inl h)
      · simp only [Prod.mk.injEq] at h; exact .inr (.inr h)
    clear hacc hin2
    rcases hcases with ⟨hu, rfl⟩ | ⟨rfl, rfl⟩ | ⟨rfl, rfl⟩
    · obtain ⟨y, m, d, h, mi, sc, hv, hc, rfl⟩ := time_exists u hu
      have c4 : ∀ wx, DatT wx → _ := fun wx => dat_Format_yes y m d h mi sc wx hv hc
      have c5 : ∀ wx, DatT wx → _ := fun wx => dat_back hv hc wx
      generalize strOfNums (fmtL y m d h mi sc) = g at *
      generalize timeI y m d h mi sc = u at *
      clear hu hv hc
      rcases hin : inTime t with _ | _
      · have ht : t < -62135596800 ∨ (-62135596800 ≤ t ∧ 253402300799 < t) := by have := of_decide_eq_false hin; omega
        clear hin
        rcases ht with ht | ⟨ht, ht'⟩
        all_goals
          go_enter Tryd.func5, Tryd.ntmps5
          (go_wp2_with fail); (refine (c3 _ hT).mono ?_); (rintro e w1 ⟨rfl, b1⟩)
          have t1 := DatT_below hT b1
          (go_wp2_with fail); (refine (c4 _ t1).mono ?_); (rintro e w2 ⟨rfl, b2⟩)
          have t2 := DatT_below t1 b2
          (go_wp2_with fail); (refine (c5 _ t2).mono ?_); (rintro e w3 ⟨rfl, b3⟩)
          have t3 := DatT_below t2 b3
          (go_wp2_with fail); (refine (dat_alive _ t3).mono ?_); (rintro e w4 ⟨rfl, b4⟩)
          go_wp2
          go_ret
          have s1 := b1.size; have s2 := b2.size; have s3 := b3.size
          exact ⟨by simp, (((b1).trans (b2.mono (by omega))).trans (b3.mono (by omega))).trans (b4.mono (by omega))⟩
      · obtain ⟨y', m', d', h', mi', s', hv', hc', rfl⟩ := time_exists t hin
        have c1 : ∀ wx, DatT wx → _ := fun wx => dat_Format_yes y' m' d' h' mi' s' wx hv' hc'
        have c2 : ∀ wx, DatT wx → _ := fun wx => dat_back hv' hc' wx
        have hf : (strOfNums (fmtL y' m' d' h' mi' s')).size = 20 := by rw [str_size, fmtL_length]
        generalize strOfNums (fmtL y' m' d' h' mi' s') = f at *
        generalize timeI y' m' d' h' mi' s' = t at *
        have ht := of_decide_eq_true hin
        obtain ⟨ht0, ht1⟩ := ht
        clear hin hv' hc'
        go_enter Tryd.func5, Tryd.ntmps5
        (go_wp2_with fail); (refine (c1 _ hT).mono ?_); (rintro e w1 ⟨rfl, b1⟩)
        have t1 := DatT_below hT b1
        (go_wp2_with fail); (refine (c2 _ t1).mono ?_); (rintro e w2 ⟨rfl, b2⟩)
        have t2 := DatT_below t1 b2
        (go_wp2_with fail); (refine (c3 _ t2).mono ?_); (rintro e w3 ⟨rfl, b3⟩)
        have t3 := DatT_below t2 b3
        (go_wp2_with fail); (refine (c4 _ t3).mono ?_); (rintro e w4 ⟨rfl, b4⟩)
        have t4 := DatT_below t3 b4
        (go_wp2_with fail); (refine (c5 _ t4).mono ?_); (rintro e w5 ⟨rfl, b5⟩)
        have t5 := DatT_below t4 b5
        (go_wp2_with fail); (refine (dat_alive _ t5).mono ?_); (rintro e w6 ⟨rfl, b6⟩)
        go_wp2
        go_ret
        have s1 := b1.size; have s2 := b2.size; have s3 := b3.size; have s4 := b4.size; have s5 := b5.size
        exact ⟨by simp, (((((b1).trans (b2.mono (by omega))).trans (b3.mono (by omega))).trans (b4.mono (by omega))).trans (b5.mono (by omega))).trans (b6.mono (by omega))⟩
    · rcases hin : inTime t with _ | _
      · have ht : t < -62135596800 ∨ (-62135596800 ≤ t ∧ 253402300799 < t) := by have := of_decide_eq_false hin; omega
        clear hin
        rcases ht with ht | ⟨ht, ht'⟩
        all_goals
          go_enter Tryd.func5, Tryd.ntmps5
          (go_wp2_with fail); (refine (c3 _ hT).mono ?_); (rintro e w1 ⟨rfl, b1⟩)
          have t1 := DatT_below hT b1
          (go_wp2_with fail); (refine (dat_alive _ t1).mono ?_); (rintro e w2 ⟨rfl, b2⟩)
          go_wp2
          go_ret
          have s1 := b1.size
          exact ⟨by simp, (b1).trans (b2.mono (by omega))⟩
      · obtain ⟨y', m', d', h', mi', s', hv', hc', rfl⟩ := time_exists t hin
        have c1 : ∀ wx, DatT wx → _ := fun wx => dat_Format_yes y' m' d' h' mi' s' wx hv' hc'
        have c2 : ∀ wx, DatT wx → _ := fun wx => dat_back hv' hc' wx
        have hf : (strOfNums (fmtL y' m' d' h' mi' s')).size = 20 := by rw [str_size, fmtL_length]
        generalize strOfNums (fmtL y' m' d' h' mi' s') = f at *
        generalize timeI y' m' d' h' mi' s' = t at *
        have ht := of_decide_eq_true hin
        obtain ⟨ht0, ht1⟩ := ht
        clear hin hv' hc'
        go_enter Tryd.func5, Tryd.ntmps5
        (go_wp2_with fail); (refine (c1 _ hT).mono ?_); (rintro e w1 ⟨rfl, b1⟩)
        have t1 := DatT_below hT b1
        (go_wp2_with fail); (refine (c2 _ t1).mono ?_); (rintro e w2 ⟨rfl, b2⟩)
        have t2 := DatT_below t1 b2
        (go_wp2_with fail); (refine (c3 _ t2).mono ?_); (rintro e w3 ⟨rfl, b3⟩)
        have t3 := DatT_below t2 b3
        (go_wp2_with fail); (refine (dat_alive _ t3).mono ?_); (rintro e w4 ⟨rfl, b4⟩)
        go_wp2
        go_ret
        have s1 := b1.size; have s2 := b2.size; have s3 := b3.size
        exact ⟨by simp, (((b1).trans (b2.mono (by omega))).trans (b3.mono (by omega))).trans (b4.mono (by omega))⟩
    · rcases hin : inTime t with _ | _
      · have ht : t < -62135596800 ∨ (-62135596800 ≤ t ∧ 253402300799 < t) := by have := of_decide_eq_false hin; omega
        clear hin
        rcases ht with ht | ⟨ht, ht'⟩
        all_goals
          go_enter Tryd.func5, Tryd.ntmps5
          (go_wp2_with fail); (refine (c3 _ hT).mono ?_); (rintro e w1 ⟨rfl, b1⟩)
          have t1 := DatT_below hT b1
          (go_wp2_with fail); (refine (dat_alive _ t1).mono ?_); (rintro e w2 ⟨rfl, b2⟩)
          go_wp2
          go_ret
          have s1 := b1.size
          exact ⟨by simp, (b1).trans (b2.mono (by omega))⟩
      · obtain ⟨y', m', d', h', mi', s', hv', hc', rfl⟩ := time_exists t hin
        have c1 : ∀ wx, DatT wx → _ := fun wx => dat_Format_yes y' m' d' h' mi' s' wx hv' hc'
        have c2 : ∀ wx, DatT wx → _ := fun wx => dat_back hv' hc' wx
        have hf : (strOfNums (fmtL y' m' d' h' mi' s')).size = 20 := by rw [str_size, fmtL_length]
        generalize strOfNums (fmtL y' m' d' h' mi' s') = f at *
        generalize timeI y' m' d' h' mi' s' = t at *
        have ht := of_decide_eq_true hin
        obtain ⟨ht0, ht1⟩ := ht
        clear hin hv' hc'
        go_enter Tryd.func5, Tryd.ntmps5
        (go_wp2_with fail); (refine (c1 _ hT).mono ?_); (rintro e w1 ⟨rfl, b1⟩)
        have t1 := DatT_below hT b1
        (go_wp2_with fail); (refine (c2 _ t1).mono ?_); (rintro e w2 ⟨rfl, b2⟩)
        have t2 := DatT_below t1 b2
        (go_wp2_with fail); (refine (c3 _ t2).mono ?_); (rintro e w3 ⟨rfl, b3⟩)
        have t3 := DatT_below t2 b3
        (go_wp2_with fail); (refine (dat_alive _ t3).mono ?_); (rintro e w4 ⟨rfl, b4⟩)
        go_wp2
        go_ret
        have s1 := b1.size; have s2 := b2.size; have s3 := b3.size
        exact ⟨by simp, (((b1).trans (b2.mono (by omega))).trans (b3.mono (by omega))).trans (b4.mono (by omega))⟩
end Go.Proofs.YtmcokldninhgdaaDoor
