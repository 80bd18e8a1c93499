/- The walks of four laws of layer 3: Format, Parse, the round trip, the order. -/
import Derived.Test.YtmcokldninhgdaaDoorDatL
import Derived.Lib.Bytes
namespace Go.Proofs.YtmcokldninhgdaaDoor
open Go.RowKit

theorem u8_lt {a b : Int} (ha : 0 ≤ a ∧ a < 256) (hb : 0 ≤ b ∧ b < 256) : UInt8.ofNat a.toNat < UInt8.ofNat b.toNat ↔ a < b := by
  rw [UInt8.lt_iff_toNat_lt, UInt8.toNat_ofNat', UInt8.toNat_ofNat']; omega
theorem u8_eq {a b : Int} (ha : 0 ≤ a ∧ a < 256) (hb : 0 ≤ b ∧ b < 256) : UInt8.ofNat a.toNat = UInt8.ofNat b.toNat ↔ a = b := by
  constructor
  · intro h
    have := congrArg UInt8.toNat h
    rw [UInt8.toNat_ofNat', UInt8.toNat_ofNat'] at this; omega
  · rintro rfl; rfl
theorem less_nums : ∀ l m : List Int, (∀ x ∈ l, 0 ≤ x ∧ x < 256) → (∀ x ∈ m, 0 ≤ x ∧ x < 256) → Op.bytesLess (l.map fun n => UInt8.ofNat n.toNat) (m.map fun n => UInt8.ofNat n.toNat) = ltZ l m
  | _, [], _, _ => by simp [Op.bytesLess, ltZ]
  | [], _ :: _, _, _ => by simp [Op.bytesLess, ltZ]
  | a :: x, b :: y, h, h' => by
    have ha := h a (by simp)
    have hb := h' b (by simp)
    have ih := less_nums x y (fun z hz => h z (by simp [hz])) (fun z hz => h' z (by simp [hz]))
    simp only [List.map_cons, Op.bytesLess, ltZ, ih]
    have e1 : decide (UInt8.ofNat a.toNat < UInt8.ofNat b.toNat) = decide (a < b) := decide_eq_decide.2 (u8_lt ha hb)
    have e2 : (UInt8.ofNat a.toNat == UInt8.ofNat b.toNat) = (a == b) := by
      rw [Bool.eq_iff_iff, beq_iff_eq, beq_iff_eq]; exact u8_eq ha hb
    rw [e1, e2]
theorem fmt_inj {y m d h mi s y' m' d' h' mi' s' : Int} (hv : okDate y m d) (hc : okClock h mi s) (hv' : okDate y' m' d') (hc' : okClock h' mi' s') (e : timeI y m d h mi s = timeI y' m' d' h' mi' s') : fmtL y m d h mi s = fmtL y' m' d' h' mi' s' := by
  have hn : numI y m d = numI y' m' d' := by unfold timeI at e; unfold okClock at hc hc'; omega
  obtain ⟨rfl, rfl, rfl⟩ := date_unique hv hv' hn
  unfold timeI at e; unfold okClock at hc hc'
  have e1 : h = h' := by omega
  have e2 : mi = mi' := by omega
  have e3 : s = s' := by omega
  rw [e1, e2, e3]
theorem lt_text {y m d h mi s y' m' d' h' mi' s' : Int} (hv : okDate y m d) (hc : okClock h mi s) (hv' : okDate y' m' d') (hc' : okClock h' mi' s') :
    Op.bytesLess (strOfNums (fmtL y m d h mi s)).toList (strOfNums (fmtL y' m' d' h' mi' s')).toList = decide (timeI y m d h mi s < timeI y' m' d' h' mi' s') := by
  rw [Lib.strOfNums_toList, Lib.strOfNums_toList, Bool.eq_iff_iff, decide_eq_true_eq, ← time_lt hv hc hv' hc', ← less_nums _ _ (fmtL_byte hv hc) (fmtL_byte hv' hc')]
  rfl
theorem eq_text {y m d h mi s y' m' d' h' mi' s' : Int} (hv : okDate y m d) (hc : okClock h mi s) (hv' : okDate y' m' d') (hc' : okClock h' mi' s') :
    ((strOfNums (fmtL y m d h mi s)).toList == (strOfNums (fmtL y' m' d' h' mi' s')).toList) = (timeI y m d h mi s == timeI y' m' d' h' mi' s') := by
  rw [Bool.eq_iff_iff, beq_iff_eq, beq_iff_eq]
  constructor
  · intro e
    have l1 := lt_text hv hc hv' hc'
    have l2 := lt_text hv' hc' hv hc
    rw [e] at l1
    rw [e] at l2
    have irr : ∀ l : List UInt8, Op.bytesLess l l = false := by
      intro l
      induction l with
      | nil => rfl
      | cons a x ih => simp [Op.bytesLess, ih]
    rw [irr] at l1 l2
    have a1 := of_decide_eq_false l1.symm
    have a2 := of_decide_eq_false l2.symm
    omega
  · intro e
    rw [fmt_inj hv hc hv' hc' e]

set_option maxRecDepth 100000 in
set_option maxHeartbeats 2000000 in
theorem walk_DatFormat (t : Int) (w : World) (hT : DatT w) :
    Calls Tryd.prog 3 #[.int .i64 t] w fun e w' => e = .returned (.bool true) ∧ Below w.heap.size w w' := by
  rcases hin : inTime t with _ | _
  · have c1 : ∀ wx, DatT wx → _ := fun wx => dat_Format_no t wx hin
    have c2 : ∀ wx, _ := fun wx => dref_Format_no t wx hin
    go_enter Tryd.func3, Tryd.ntmps3
    (go_wp2_with fail); (refine (c1 _ hT).mono ?_); (rintro e w1 ⟨rfl, b1⟩)
    have t1 := DatT_below hT b1
    (go_wp2_with fail); (refine (c2 _).mono ?_); (rintro e w' ⟨rfl, rfl⟩)
    (go_wp2_with fail); (refine (dat_alive _ t1).mono ?_); (rintro e w2 ⟨rfl, b2⟩)
    go_wp2
    go_ret
    have s1 := b1.size
    exact ⟨by simp, b1.trans (b2.mono (by omega))⟩
  · obtain ⟨y, m, d, h, mi, s, hv, hc, rfl⟩ := time_exists t hin
    have c1 : ∀ wx, DatT wx → _ := fun wx => dat_Format_yes y m d h mi s wx hv hc
    have c2 : ∀ wx, _ := fun wx => dref_Format_yes y m d h mi s wx hv hc
    generalize strOfNums (fmtL y m d h mi s) = f at c1 c2
    generalize timeI y m d h mi s = t at *
    clear hv hc hin
    go_enter Tryd.func3, Tryd.ntmps3
    (go_wp2_with fail); (refine (c1 _ hT).mono ?_); (rintro e w1 ⟨rfl, b1⟩)
    have t1 := DatT_below hT b1
    go_wp2_with fail
    refine (c2 _).mono ?_
    rintro e w2 ⟨rfl, b2⟩
    have t2 := DatT_below t1 b2
    (go_wp2_with fail); (refine (dat_alive _ t2).mono ?_); (rintro e w3 ⟨rfl, b3⟩)
    go_wp2
    go_ret
    have s1 := b1.size; have s2 := b2.size
    exact ⟨by simp, ((b1).trans (b2.mono (by omega))).trans (b3.mono (by omega))⟩

set_option maxRecDepth 100000 in
set_option maxHeartbeats 2000000 in
theorem walk_DatParse (s : ByteArray) (w : World) (hs : s.size ≤ 140737488351232) (hT : DatT w) :
    Calls Tryd.prog 4 #[.string s] w fun e w' => e = .returned (.bool true) ∧ Below w.heap.size w w' := by
  by_cases h5 : (5000 : Int) < (s.size : Int)
  · go_enter Tryd.func4, Tryd.ntmps4
    (go_wp2_with fail); (refine (dat_alive _ hT).mono ?_); (rintro e w1 ⟨rfl, b1⟩)
    go_wp2
    go_ret
    exact ⟨rfl, b1⟩
  · have c1 : ∀ wx, DatT wx → _ := fun wx => dat_Parse s wx hs
    have c2 : ∀ wx, _ := fun wx => dref_Parse s wx hs
    generalize parseL (zs s) = v at *
    obtain ⟨v1, v2⟩ := v
    simp only at c1 c2
    go_enter Tryd.func4, Tryd.ntmps4
    (go_wp2_with fail); (refine (c1 _ hT).mono ?_); (rintro e w1 ⟨rfl, b1⟩)
    have t1 := DatT_below hT b1
    (go_wp2_with fail); (refine (c2 _).mono ?_); (rintro e w' ⟨rfl, rfl⟩)
    (go_wp2_with fail); (refine (dat_alive _ t1).mono ?_); (rintro e w2 ⟨rfl, b2⟩)
    go_wp2
    go_ret
    have s1 := b1.size
    exact ⟨by simp, b1.trans (b2.mono (by omega))⟩

set_option maxRecDepth 100000 in
set_option maxHeartbeats 4000000 in
theorem walk_DatOrder (t u : Int) (w : World) (hT : DatT w) :
    Calls Tryd.prog 6 #[.int .i64 t, .int .i64 u] w fun e w' => e = .returned (.bool true) ∧ Below w.heap.size w w' := by
  rcases hin : inTime t with _ | _
  · have c1 : ∀ wx, DatT wx → _ := fun wx => dat_Format_no t wx hin
    have ht : t < -62135596800 ∨ (-62135596800 ≤ t ∧ 253402300799 < t) := by have := of_decide_eq_false hin; omega
    rcases hiu : inTime u with _ | _
    · have c2 : ∀ wx, DatT wx → _ := fun wx => dat_Format_no u wx hiu
      have hu : u < -62135596800 ∨ (-62135596800 ≤ u ∧ 253402300799 < u) := by have := of_decide_eq_false hiu; omega
      clear hin hiu
      rcases ht with ht | ⟨ht, ht'⟩ <;> rcases hu with hu | ⟨hu, hu'⟩
      all_goals
        go_enter Tryd.func6, Tryd.ntmps6
        (go_wp2_with fail); (refine (c1 _ hT).mono ?_); (rintro e w1 ⟨rfl, b1⟩)
        have t1 := DatT_below hT b1
        (go_wp2_with fail); (refine (c2 _ t1).mono ?_); (rintro e w2 ⟨rfl, b2⟩)
        have t2 := DatT_below t1 b2
        (go_wp2_with fail); (refine (dat_alive _ t2).mono ?_); (rintro e w3 ⟨rfl, b3⟩)
        go_wp2
        go_ret
        have s1 := b1.size; have s2 := b2.size
        exact ⟨by simp, ((b1).trans (b2.mono (by omega))).trans (b3.mono (by omega))⟩
    · obtain ⟨y, m, d, h, mi, s, hv, hc, rfl⟩ := time_exists u hiu
      have c2 : ∀ wx, DatT wx → _ := fun wx => dat_Format_yes y m d h mi s wx hv hc
      generalize strOfNums (fmtL y m d h mi s) = f at c2
      generalize timeI y m d h mi s = u at *
      clear hin hiu hv hc
      rcases ht with ht | ⟨ht, ht'⟩
      all_goals
        go_enter Tryd.func6, Tryd.ntmps6
        (go_wp2_with fail); (refine (c1 _ hT).mono ?_); (rintro e w1 ⟨rfl, b1⟩)
        have t1 := DatT_below hT b1
        (go_wp2_with fail); (refine (c2 _ t1).mono ?_); (rintro e w2 ⟨rfl, b2⟩)
        have t2 := DatT_below t1 b2
        (go_wp2_with fail); (refine (dat_alive _ t2).mono ?_); (rintro e w3 ⟨rfl, b3⟩)
        go_wp2
        go_ret
        have s1 := b1.size; have s2 := b2.size
        exact ⟨by simp, ((b1).trans (b2.mono (by omega))).trans (b3.mono (by omega))⟩
  · obtain ⟨y, m, d, h, mi, s, hv, hc, rfl⟩ := time_exists t hin
    have c1 : ∀ wx, DatT wx → _ := fun wx => dat_Format_yes y m d h mi s wx hv hc
    rcases hiu : inTime u with _ | _
    · have c2 : ∀ wx, DatT wx → _ := fun wx => dat_Format_no u wx hiu
      have hu : u < -62135596800 ∨ (-62135596800 ≤ u ∧ 253402300799 < u) := by have := of_decide_eq_false hiu; omega
      generalize strOfNums (fmtL y m d h mi s) = f at c1
      generalize timeI y m d h mi s = t at *
      clear hin hiu hv hc
      rcases hu with hu | ⟨hu, hu'⟩
      all_goals
        go_enter Tryd.func6, Tryd.ntmps6
        (go_wp2_with fail); (refine (c1 _ hT).mono ?_); (rintro e w1 ⟨rfl, b1⟩)
        have t1 := DatT_below hT b1
        (go_wp2_with fail); (refine (c2 _ t1).mono ?_); (rintro e w2 ⟨rfl, b2⟩)
        have t2 := DatT_below t1 b2
        (go_wp2_with fail); (refine (dat_alive _ t2).mono ?_); (rintro e w3 ⟨rfl, b3⟩)
        go_wp2
        go_ret
        have s1 := b1.size; have s2 := b2.size
        exact ⟨by simp, ((b1).trans (b2.mono (by omega))).trans (b3.mono (by omega))⟩
    · obtain ⟨y', m', d', h', mi', s', hv', hc', rfl⟩ := time_exists u hiu
      have c2 : ∀ wx, DatT wx → _ := fun wx => dat_Format_yes y' m' d' h' mi' s' wx hv' hc'
      have e1 := lt_text hv hc hv' hc'
      have e2 := eq_text hv hc hv' hc'
      generalize strOfNums (fmtL y m d h mi s) = f at *
      generalize strOfNums (fmtL y' m' d' h' mi' s') = g at *
      generalize timeI y m d h mi s = t at *
      generalize timeI y' m' d' h' mi' s' = u at *
      have H1 := Lib.hid e1
      have H2 := Lib.hid e2
      clear e1 e2 hin hiu hv hc hv' hc'
      go_enter Tryd.func6, Tryd.ntmps6
      (go_wp2_with fail); (refine (c1 _ hT).mono ?_); (rintro e w1 ⟨rfl, b1⟩)
      have t1 := DatT_below hT b1
      (go_wp2_with fail); (refine (c2 _ t1).mono ?_); (rintro e w2 ⟨rfl, b2⟩)
      have t2 := DatT_below t1 b2
      (go_wp2_with fail); (refine (dat_alive _ t2).mono ?_); (rintro e w3 ⟨rfl, b3⟩)
      go_wp2
      go_ret
      have s1 := b1.size; have s2 := b2.size
      exact ⟨by simp [H2.out], ((b1).trans (b2.mono (by omega))).trans (b3.mono (by omega))⟩
end Go.Proofs.YtmcokldninhgdaaDoor
