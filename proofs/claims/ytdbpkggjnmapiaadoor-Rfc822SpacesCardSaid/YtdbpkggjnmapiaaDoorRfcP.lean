/- The walk of the law of layer 4 on the day of the week. -/
import Derived.Test.YtdbpkggjnmapiaaDoorRfcL
import Derived.Test.YtdbpkggjnmapiaaDoorStrK
namespace Go.Proofs.YtdbpkggjnmapiaaDoor
open Go.RowKit

theorem ob_join (a b : List UInt8) : ofBytes a ++ ofBytes b = ofBytes (a ++ b) := by
  apply str_ext
  simp [ofBytes]
theorem ob_from (l : List UInt8) (k : Nat) : (ofBytes l).extract k (ofBytes l).size = ofBytes (l.drop k) := by
  rw [ext_from, ofBytes_list, ofBytes_size, List.take_of_length_le (by rw [List.length_drop]; omega)]
theorem joinS_cons2 (w : List UInt8) (r : List (List UInt8)) (h : r ≠ []) : joinS (w :: r) = w ++ 32 :: joinS r := by
  cases r with
  | nil => exact absurd rfl h
  | cons v r => rfl
/-- The strings of the law. -/
theorem named_strings (k y m d h mi s : Int) (hk : 0 ≤ k ∧ k ≤ 6) (hv : okDate y m d) (hc : okClock h mi s) {f : ByteArray} (hf : f = strOfNums (fmt822 y m d h mi s)) :
    parse822 (ofBytes (dayN k) ++ f.extract 3 f.size) = (timeI y m d h mi s, 0) ∧ parse822 (f.extract 5 f.size) = (timeI y m d h mi s, 0) ∧ parse822 (ofBytes (dayN k) ++ ⟨#[32]⟩ ++ f.extract 5 f.size) = (0, 20) := by
  have h3 := (day_at ((numI y m d + 719163) % 7) (by omega)).2.2.1
  have hj : nb (fmt822 y m d h mi s) = dayN ((numI y m d + 719163) % 7) ++ (44 :: 32 :: joinS (fiveW y m d h mi s)) := by
    rw [fmt_join, joinS_cons2 _ _ (by unfold fiveW; simp), List.append_assoc]; rfl
  have d3 : (nb (fmt822 y m d h mi s)).drop 3 = 44 :: 32 :: joinS (fiveW y m d h mi s) := by rw [hj, ← h3, List.drop_left]
  have d5 : (nb (fmt822 y m d h mi s)).drop 5 = joinS (fiveW y m d h mi s) := by
    rw [show 5 = 3 + 2 from rfl, ← List.drop_drop, d3]; rfl
  have p1 := parse_named k y m d h mi s hk hv hc
  have p2 := parse_bare y m d h mi s hv hc
  have p3 := parse_uncomma k y m d h mi s hk hv hc
  rw [hf, nb_str, ob_from, ob_from, d3, d5, ob_join, show (⟨#[32]⟩ : ByteArray) = ofBytes [32] from rfl, ob_join, ob_join]
  have hne : fiveW y m d h mi s ≠ [] := by unfold fiveW; simp
  have j1 := joinS_cons2 (dayN k ++ [44]) _ hne
  have j2 := joinS_cons2 (dayN k) _ hne
  generalize joinS (fiveW y m d h mi s) = J at *
  refine ⟨?_, p2, ?_⟩
  · rw [← p1, j1, List.append_assoc]; rfl
  · rw [← p3, j2, List.append_assoc]; rfl
theorem day_lits : ofBytes (dayN 0) = ⟨#[83, 117, 110]⟩ ∧ ofBytes (dayN 1) = ⟨#[77, 111, 110]⟩ ∧ ofBytes (dayN 2) = ⟨#[84, 117, 101]⟩ ∧ ofBytes (dayN 3) = ⟨#[87, 101, 100]⟩ ∧ ofBytes (dayN 4) = ⟨#[84, 104, 117]⟩ ∧ ofBytes (dayN 5) = ⟨#[70, 114, 105]⟩ ∧ ofBytes (dayN 6) = ⟨#[83, 97, 116]⟩ := by decide

set_option maxRecDepth 100000 in
set_option maxHeartbeats 8000000 in
theorem walk_RfcWeekday (t k : Int) (w : World) (hk0 : 0 ≤ k) (hk1 : k ≤ 255) (hT : RfcT w) :
    Calls Tryd.prog 7 #[.int .i64 t, .int .u8 k] w fun e w' => e = .returned (.bool true) ∧ Below w.heap.size w w' := by
  rcases hin : inTime t with _ | _
  · have c1 : ∀ wx, RfcT wx → _ := fun wx => rfc_Format_no t wx hin
    clear hin
    go_enter Tryd.func7, Tryd.ntmps7
    (go_wp2_with fail); (refine (c1 _ hT).mono ?_); (rintro e w1 ⟨rfl, b1⟩)
    have t1 := RfcT_below hT b1
    (go_wp2_with fail); (refine (rfc_alive _ t1).mono ?_); (rintro e w2 ⟨rfl, b2⟩)
    go_wp2
    go_ret
    have s1 := b1.size
    exact ⟨by simp, b1.trans (b2.mono (by omega))⟩
  · obtain ⟨y, m, d, h, mi, s, hv, hc, rfl⟩ := time_exists t hin
    have c1 : ∀ wx, RfcT wx → _ := fun wx => rfc_Format_yes y m d h mi s wx hv hc
    have hsz : (strOfNums (fmt822 y m d h mi s)).size = 29 := by rw [str_size, fmt822_length _ _ _ _ _ _ ⟨hv.2.2.1, hv.2.2.2.1⟩]
    have hn : ∀ j : Int, 0 ≤ j ∧ j ≤ 6 → _ := fun j hj => named_strings j y m d h mi s hj hv hc rfl
    generalize strOfNums (fmt822 y m d h mi s) = f at *
    have i1 : ∀ wx, _ := fun wx => slice_from f 3 (by omega) (by omega) wx
    have i2 : ∀ wx, _ := fun wx => slice_from f 5 (by omega) (by omega) wx
    rw [show (3 : Int).toNat = 3 from rfl] at i1
    rw [show (5 : Int).toNat = 5 from rfl] at i2
    have z1 : (f.extract 3 f.size).size = 26 := by rw [ByteArray.size_extract]; omega
    have z2 : (f.extract 5 f.size).size = 24 := by rw [ByteArray.size_extract]; omega
    generalize f.extract 3 f.size = f3 at *
    generalize f.extract 5 f.size = f5 at *
    generalize timeI y m d h mi s = t at *
    clear hv hc hin
    obtain ⟨l0, l1, l2, l3, l4, l5, l6⟩ := day_lits
    rcases (by omega : k % 7 = 0 ∨ k % 7 = 1 ∨ k % 7 = 2 ∨ k % 7 = 3 ∨ k % 7 = 4 ∨ k % 7 = 5 ∨ k % 7 = 6) with hk | hk | hk | hk | hk | hk | hk
    · obtain ⟨q1, q2, q3⟩ := hn 0 (by omega)
      rw [l0] at q1 q3
      clear hn l0 l1 l2 l3 l4 l5 l6
      have hix : ∀ wx : World, (Instr.index 38 (.agg #[.string ⟨#[83, 117, 110]⟩, .string ⟨#[77, 111, 110]⟩, .string ⟨#[84, 117, 101]⟩, .string ⟨#[87, 101, 100]⟩, .string ⟨#[84, 104, 117]⟩, .string ⟨#[70, 114, 105]⟩, .string ⟨#[83, 97, 116]⟩]) (.int .u8 0)).run Tryd.prog wx = .ok (.string ⟨#[83, 117, 110]⟩) wx := fun _ => by kernel_rfl
      have y0 : (⟨#[83, 117, 110]⟩ : ByteArray).size = 3 := by decide
      have y1 : ((⟨#[83, 117, 110]⟩ : ByteArray) ++ f3).size = 29 := by rw [ByteArray.size_append]; omega
      have y2 : ((⟨#[83, 117, 110]⟩ : ByteArray) ++ ⟨#[32]⟩).size = 4 := by decide
      have y3 : ((⟨#[83, 117, 110]⟩ : ByteArray) ++ ⟨#[32]⟩ ++ f5).size = 28 := by rw [ByteArray.size_append]; omega
      have c2 : ∀ wx, RfcT wx → _ := fun wx => rfc_Parse (⟨#[83, 117, 110]⟩ ++ f3) wx (by omega)
      have c3 : ∀ wx, RfcT wx → _ := fun wx => rfc_Parse f5 wx (by omega)
      obtain ⟨S4, hS4⟩ : ∃ S, S = (⟨#[83, 117, 110]⟩ : ByteArray) ++ ⟨#[32]⟩ ++ f5 := ⟨_, rfl⟩
      rw [← hS4] at q3 y3
      have c4 : ∀ wx, RfcT wx → _ := fun wx => rfc_Parse S4 wx (by omega)
      have H4 := Lib.hid hS4
      clear hS4
      rw [q1] at c2
      rw [q2] at c3
      rw [q3] at c4
      clear q1 q2 q3 y0
      go_enter Tryd.func7, Tryd.ntmps7
      (go_wp2_with fail); (refine (c1 _ hT).mono ?_); (rintro e w1 ⟨rfl, b1⟩)
      have t1 := RfcT_below hT b1
      (go_wp2_with fail); (refine (c2 _ t1).mono ?_); (rintro e w2 ⟨rfl, b2⟩)
      have t2 := RfcT_below t1 b2
      (go_wp2_with fail); (refine (c3 _ t2).mono ?_); (rintro e w3 ⟨rfl, b3⟩)
      have t3 := RfcT_below t2 b3
      go_wp2_with fail
      rw [← H4.out]
      refine (c4 _ t3).mono ?_
      rintro e w4 ⟨rfl, b4⟩
      have t4 := RfcT_below t3 b4
      (go_wp2_with fail); (refine (rfc_alive _ t4).mono ?_); (rintro e w5 ⟨rfl, b5⟩)
      go_wp2
      go_ret
      have s1 := b1.size; have s2 := b2.size; have s3 := b3.size; have s4 := b4.size
      exact ⟨by simp, (((b1.trans (b2.mono (by omega))).trans (b3.mono (by omega))).trans (b4.mono (by omega))).trans (b5.mono (by omega))⟩
    · obtain ⟨q1, q2, q3⟩ := hn 1 (by omega)
      rw [l1] at q1 q3
      clear hn l0 l1 l2 l3 l4 l5 l6
      have hix : ∀ wx : World, (Instr.index 38 (.agg #[.string ⟨#[83, 117, 110]⟩, .string ⟨#[77, 111, 110]⟩, .string ⟨#[84, 117, 101]⟩, .string ⟨#[87, 101, 100]⟩, .string ⟨#[84, 104, 117]⟩, .string ⟨#[70, 114, 105]⟩, .string ⟨#[83, 97, 116]⟩]) (.int .u8 1)).run Tryd.prog wx = .ok (.string ⟨#[77, 111, 110]⟩) wx := fun _ => by kernel_rfl
      have y0 : (⟨#[77, 111, 110]⟩ : ByteArray).size = 3 := by decide
      have y1 : ((⟨#[77, 111, 110]⟩ : ByteArray) ++ f3).size = 29 := by rw [ByteArray.size_append]; omega
      have y2 : ((⟨#[77, 111, 110]⟩ : ByteArray) ++ ⟨#[32]⟩).size = 4 := by decide
      have y3 : ((⟨#[77, 111, 110]⟩ : ByteArray) ++ ⟨#[32]⟩ ++ f5).size = 28 := by rw [ByteArray.size_append]; omega
      have c2 : ∀ wx, RfcT wx → _ := fun wx => rfc_Parse (⟨#[77, 111, 110]⟩ ++ f3) wx (by omega)
      have c3 : ∀ wx, RfcT wx → _ := fun wx => rfc_Parse f5 wx (by omega)
      obtain ⟨S4, hS4⟩ : ∃ S, S = (⟨#[77, 111, 110]⟩ : ByteArray) ++ ⟨#[32]⟩ ++ f5 := ⟨_, rfl⟩
      rw [← hS4] at q3 y3
      have c4 : ∀ wx, RfcT wx → _ := fun wx => rfc_Parse S4 wx (by omega)
      have H4 := Lib.hid hS4
      clear hS4
      rw [q1] at c2
      rw [q2] at c3
      rw [q3] at c4
      clear q1 q2 q3 y0
      go_enter Tryd.func7, Tryd.ntmps7
      (go_wp2_with fail); (refine (c1 _ hT).mono ?_); (rintro e w1 ⟨rfl, b1⟩)
      have t1 := RfcT_below hT b1
      (go_wp2_with fail); (refine (c2 _ t1).mono ?_); (rintro e w2 ⟨rfl, b2⟩)
      have t2 := RfcT_below t1 b2
      (go_wp2_with fail); (refine (c3 _ t2).mono ?_); (rintro e w3 ⟨rfl, b3⟩)
      have t3 := RfcT_below t2 b3
      go_wp2_with fail
      rw [← H4.out]
      refine (c4 _ t3).mono ?_
      rintro e w4 ⟨rfl, b4⟩
      have t4 := RfcT_below t3 b4
      (go_wp2_with fail); (refine (rfc_alive _ t4).mono ?_); (rintro e w5 ⟨rfl, b5⟩)
      go_wp2
      go_ret
      have s1 := b1.size; have s2 := b2.size; have s3 := b3.size; have s4 := b4.size
      exact ⟨by simp, (((b1.trans (b2.mono (by omega))).trans (b3.mono (by omega))).trans (b4.mono (by omega))).trans (b5.mono (by omega))⟩
    · obtain ⟨q1, q2, q3⟩ := hn 2 (by omega)
      rw [l2] at q1 q3
      clear hn l0 l1 l2 l3 l4 l5 l6
      have hix : ∀ wx : World, (Instr.index 38 (.agg #[.string ⟨#[83, 117, 110]⟩, .string ⟨#[77, 111, 110]⟩, .string ⟨#[84, 117, 101]⟩, .string ⟨#[87, 101, 100]⟩, .string ⟨#[84, 104, 117]⟩, .string ⟨#[70, 114, 105]⟩, .string ⟨#[83, 97, 116]⟩]) (.int .u8 2)).run Tryd.prog wx = .ok (.string ⟨#[84, 117, 101]⟩) wx := fun _ => by kernel_rfl
      have y0 : (⟨#[84, 117, 101]⟩ : ByteArray).size = 3 := by decide
      have y1 : ((⟨#[84, 117, 101]⟩ : ByteArray) ++ f3).size = 29 := by rw [ByteArray.size_append]; omega
      have y2 : ((⟨#[84, 117, 101]⟩ : ByteArray) ++ ⟨#[32]⟩).size = 4 := by decide
      have y3 : ((⟨#[84, 117, 101]⟩ : ByteArray) ++ ⟨#[32]⟩ ++ f5).size = 28 := by rw [ByteArray.size_append]; omega
      have c2 : ∀ wx, RfcT wx → _ := fun wx => rfc_Parse (⟨#[84, 117, 101]⟩ ++ f3) wx (by omega)
      have c3 : ∀ wx, RfcT wx → _ := fun wx => rfc_Parse f5 wx (by omega)
      obtain ⟨S4, hS4⟩ : ∃ S, S = (⟨#[84, 117, 101]⟩ : ByteArray) ++ ⟨#[32]⟩ ++ f5 := ⟨_, rfl⟩
      rw [← hS4] at q3 y3
      have c4 : ∀ wx, RfcT wx → _ := fun wx => rfc_Parse S4 wx (by omega)
      have H4 := Lib.hid hS4
      clear hS4
      rw [q1] at c2
      rw [q2] at c3
      rw [q3] at c4
      clear q1 q2 q3 y0
      go_enter Tryd.func7, Tryd.ntmps7
      (go_wp2_with fail); (refine (c1 _ hT).mono ?_); (rintro e w1 ⟨rfl, b1⟩)
      have t1 := RfcT_below hT b1
      (go_wp2_with fail); (refine (c2 _ t1).mono ?_); (rintro e w2 ⟨rfl, b2⟩)
      have t2 := RfcT_below t1 b2
      (go_wp2_with fail); (refine (c3 _ t2).mono ?_); (rintro e w3 ⟨rfl, b3⟩)
      have t3 := RfcT_below t2 b3
      go_wp2_with fail
      rw [← H4.out]
      refine (c4 _ t3).mono ?_
      rintro e w4 ⟨rfl, b4⟩
      have t4 := RfcT_below t3 b4
      (go_wp2_with fail); (refine (rfc_alive _ t4).mono ?_); (rintro e w5 ⟨rfl, b5⟩)
      go_wp2
      go_ret
      have s1 := b1.size; have s2 := b2.size; have s3 := b3.size; have s4 := b4.size
      exact ⟨by simp, (((b1.trans (b2.mono (by omega))).trans (b3.mono (by omega))).trans (b4.mono (by omega))).trans (b5.mono (by omega))⟩
    · obtain ⟨q1, q2, q3⟩ := hn 3 (by omega)
      rw [l3] at q1 q3
      clear hn l0 l1 l2 l3 l4 l5 l6
      have hix : ∀ wx : World, (Instr.index 38 (.agg #[.string ⟨#[83, 117, 110]⟩, .string ⟨#[77, 111, 110]⟩, .string ⟨#[84, 117, 101]⟩, .string ⟨#[87, 101, 100]⟩, .string ⟨#[84, 104, 117]⟩, .string ⟨#[70, 114, 105]⟩, .string ⟨#[83, 97, 116]⟩]) (.int .u8 3)).run Tryd.prog wx = .ok (.string ⟨#[87, 101, 100]⟩) wx := fun _ => by kernel_rfl
      have y0 : (⟨#[87, 101, 100]⟩ : ByteArray).size = 3 := by decide
      have y1 : ((⟨#[87, 101, 100]⟩ : ByteArray) ++ f3).size = 29 := by rw [ByteArray.size_append]; omega
      have y2 : ((⟨#[87, 101, 100]⟩ : ByteArray) ++ ⟨#[32]⟩).size = 4 := by decide
      have y3 : ((⟨#[87, 101, 100]⟩ : ByteArray) ++ ⟨#[32]⟩ ++ f5).size = 28 := by rw [ByteArray.size_append]; omega
      have c2 : ∀ wx, RfcT wx → _ := fun wx => rfc_Parse (⟨#[87, 101, 100]⟩ ++ f3) wx (by omega)
      have c3 : ∀ wx, RfcT wx → _ := fun wx => rfc_Parse f5 wx (by omega)
      obtain ⟨S4, hS4⟩ : ∃ S, S = (⟨#[87, 101, 100]⟩ : ByteArray) ++ ⟨#[32]⟩ ++ f5 := ⟨_, rfl⟩
      rw [← hS4] at q3 y3
      have c4 : ∀ wx, RfcT wx → _ := fun wx => rfc_Parse S4 wx (by omega)
      have H4 := Lib.hid hS4
      clear hS4
      rw [q1] at c2
      rw [q2] at c3
      rw [q3] at c4
      clear q1 q2 q3 y0
      go_enter Tryd.func7, Tryd.ntmps7
      (go_wp2_with fail); (refine (c1 _ hT).mono ?_); (rintro e w1 ⟨rfl, b1⟩)
      have t1 := RfcT_below hT b1
      (go_wp2_with fail); (refine (c2 _ t1).mono ?_); (rintro e w2 ⟨rfl, b2⟩)
      have t2 := RfcT_below t1 b2
      (go_wp2_with fail); (refine (c3 _ t2).mono ?_); (rintro e w3 ⟨rfl, b3⟩)
      have t3 := RfcT_below t2 b3
      go_wp2_with fail
      rw [← H4.out]
      refine (c4 _ t3).mono ?_
      rintro e w4 ⟨rfl, b4⟩
      have t4 := RfcT_below t3 b4
      (go_wp2_with fail); (refine (rfc_alive _ t4).mono ?_); (rintro e w5 ⟨rfl, b5⟩)
      go_wp2
      go_ret
      have s1 := b1.size; have s2 := b2.size; have s3 := b3.size; have s4 := b4.size
      exact ⟨by simp, (((b1.trans (b2.mono (by omega))).trans (b3.mono (by omega))).trans (b4.mono (by omega))).trans (b5.mono (by omega))⟩
    · obtain ⟨q1, q2, q3⟩ := hn 4 (by omega)
      rw [l4] at q1 q3
      clear hn l0 l1 l2 l3 l4 l5 l6
      have hix : ∀ wx : World, (Instr.index 38 (.agg #[.string ⟨#[83, 117, 110]⟩, .string ⟨#[77, 111, 110]⟩, .string ⟨#[84, 117, 101]⟩, .string ⟨#[87, 101, 100]⟩, .string ⟨#[84, 104, 117]⟩, .string ⟨#[70, 114, 105]⟩, .string ⟨#[83, 97, 116]⟩]) (.int .u8 4)).run Tryd.prog wx = .ok (.string ⟨#[84, 104, 117]⟩) wx := fun _ => by kernel_rfl
      have y0 : (⟨#[84, 104, 117]⟩ : ByteArray).size = 3 := by decide
      have y1 : ((⟨#[84, 104, 117]⟩ : ByteArray) ++ f3).size = 29 := by rw [ByteArray.size_append]; omega
      have y2 : ((⟨#[84, 104, 117]⟩ : ByteArray) ++ ⟨#[32]⟩).size = 4 := by decide
      have y3 : ((⟨#[84, 104, 117]⟩ : ByteArray) ++ ⟨#[32]⟩ ++ f5).size = 28 := by rw [ByteArray.size_append]; omega
      have c2 : ∀ wx, RfcT wx → _ := fun wx => rfc_Parse (⟨#[84, 104, 117]⟩ ++ f3) wx (by omega)
      have c3 : ∀ wx, RfcT wx → _ := fun wx => rfc_Parse f5 wx (by omega)
      obtain ⟨S4, hS4⟩ : ∃ S, S = (⟨#[84, 104, 117]⟩ : ByteArray) ++ ⟨#[32]⟩ ++ f5 := ⟨_, rfl⟩
      rw [← hS4] at q3 y3
      have c4 : ∀ wx, RfcT wx → _ := fun wx => rfc_Parse S4 wx (by omega)
      have H4 := Lib.hid hS4
      clear hS4
      rw [q1] at c2
      rw [q2] at c3
      rw [q3] at c4
      clear q1 q2 q3 y0
      go_enter Tryd.func7, Tryd.ntmps7
      (go_wp2_with fail); (refine (c1 _ hT).mono ?_); (rintro e w1 ⟨rfl, b1⟩)
      have t1 := RfcT_below hT b1
      (go_wp2_with fail); (refine (c2 _ t1).mono ?_); (rintro e w2 ⟨rfl, b2⟩)
      have t2 := RfcT_below t1 b2
      (go_wp2_with fail); (refine (c3 _ t2).mono ?_); (rintro e w3 ⟨rfl, b3⟩)
      have t3 := RfcT_below t2 b3
      go_wp2_with fail
      rw [← H4.out]
      refine (c4 _ t3).mono ?_
      rintro e w4 ⟨rfl, b4⟩
      have t4 := RfcT_below t3 b4
      (go_wp2_with fail); (refine (rfc_alive _ t4).mono ?_); (rintro e w5 ⟨rfl, b5⟩)
      go_wp2
      go_ret
      have s1 := b1.size; have s2 := b2.size; have s3 := b3.size; have s4 := b4.size
      exact ⟨by simp, (((b1.trans (b2.mono (by omega))).trans (b3.mono (by omega))).trans (b4.mono (by omega))).trans (b5.mono (by omega))⟩
    · obtain ⟨q1, q2, q3⟩ := hn 5 (by omega)
      rw [l5] at q1 q3
      clear hn l0 l1 l2 l3 l4 l5 l6
      have hix : ∀ wx : World, (Instr.index 38 (.agg #[.string ⟨#[83, 117, 110]⟩, .string ⟨#[77, 111, 110]⟩, .string ⟨#[84, 117, 101]⟩, .string ⟨#[87, 101, 100]⟩, .string ⟨#[84, 104, 117]⟩, .string ⟨#[70, 114, 105]⟩, .string ⟨#[83, 97, 116]⟩]) (.int .u8 5)).run Tryd.prog wx = .ok (.string ⟨#[70, 114, 105]⟩) wx := fun _ => by kernel_rfl
      have y0 : (⟨#[70, 114, 105]⟩ : ByteArray).size = 3 := by decide
      have y1 : ((⟨#[70, 114, 105]⟩ : ByteArray) ++ f3).size = 29 := by rw [ByteArray.size_append]; omega
      have y2 : ((⟨#[70, 114, 105]⟩ : ByteArray) ++ ⟨#[32]⟩).size = 4 := by decide
      have y3 : ((⟨#[70, 114, 105]⟩ : ByteArray) ++ ⟨#[32]⟩ ++ f5).size = 28 := by rw [ByteArray.size_append]; omega
      have c2 : ∀ wx, RfcT wx → _ := fun wx => rfc_Parse (⟨#[70, 114, 105]⟩ ++ f3) wx (by omega)
      have c3 : ∀ wx, RfcT wx → _ := fun wx => rfc_Parse f5 wx (by omega)
      obtain ⟨S4, hS4⟩ : ∃ S, S = (⟨#[70, 114, 105]⟩ : ByteArray) ++ ⟨#[32]⟩ ++ f5 := ⟨_, rfl⟩
      rw [← hS4] at q3 y3
      have c4 : ∀ wx, RfcT wx → _ := fun wx => rfc_Parse S4 wx (by omega)
      have H4 := Lib.hid hS4
      clear hS4
      rw [q1] at c2
      rw [q2] at c3
      rw [q3] at c4
      clear q1 q2 q3 y0
      go_enter Tryd.func7, Tryd.ntmps7
      (go_wp2_with fail); (refine (c1 _ hT).mono ?_); (rintro e w1 ⟨rfl, b1⟩)
      have t1 := RfcT_below hT b1
      (go_wp2_with fail); (refine (c2 _ t1).mono ?_); (rintro e w2 ⟨rfl, b2⟩)
      have t2 := RfcT_below t1 b2
      (go_wp2_with fail); (refine (c3 _ t2).mono ?_); (rintro e w3 ⟨rfl, b3⟩)
      have t3 := RfcT_below t2 b3
      go_wp2_with fail
      rw [← H4.out]
      refine (c4 _ t3).mono ?_
      rintro e w4 ⟨rfl, b4⟩
      have t4 := RfcT_below t3 b4
      (go_wp2_with fail); (refine (rfc_alive _ t4).mono ?_); (rintro e w5 ⟨rfl, b5⟩)
      go_wp2
      go_ret
      have s1 := b1.size; have s2 := b2.size; have s3 := b3.size; have s4 := b4.size
      exact ⟨by simp, (((b1.trans (b2.mono (by omega))).trans (b3.mono (by omega))).trans (b4.mono (by omega))).trans (b5.mono (by omega))⟩
    · obtain ⟨q1, q2, q3⟩ := hn 6 (by omega)
      rw [l6] at q1 q3
      clear hn l0 l1 l2 l3 l4 l5 l6
      have hix : ∀ wx : World, (Instr.index 38 (.agg #[.string ⟨#[83, 117, 110]⟩, .string ⟨#[77, 111, 110]⟩, .string ⟨#[84, 117, 101]⟩, .string ⟨#[87, 101, 100]⟩, .string ⟨#[84, 104, 117]⟩, .string ⟨#[70, 114, 105]⟩, .string ⟨#[83, 97, 116]⟩]) (.int .u8 6)).run Tryd.prog wx = .ok (.string ⟨#[83, 97, 116]⟩) wx := fun _ => by kernel_rfl
      have y0 : (⟨#[83, 97, 116]⟩ : ByteArray).size = 3 := by decide
      have y1 : ((⟨#[83, 97, 116]⟩ : ByteArray) ++ f3).size = 29 := by rw [ByteArray.size_append]; omega
      have y2 : ((⟨#[83, 97, 116]⟩ : ByteArray) ++ ⟨#[32]⟩).size = 4 := by decide
      have y3 : ((⟨#[83, 97, 116]⟩ : ByteArray) ++ ⟨#[32]⟩ ++ f5).size = 28 := by rw [ByteArray.size_append]; omega
      have c2 : ∀ wx, RfcT wx → _ := fun wx => rfc_Parse (⟨#[83, 97, 116]⟩ ++ f3) wx (by omega)
      have c3 : ∀ wx, RfcT wx → _ := fun wx => rfc_Parse f5 wx (by omega)
      obtain ⟨S4, hS4⟩ : ∃ S, S = (⟨#[83, 97, 116]⟩ : ByteArray) ++ ⟨#[32]⟩ ++ f5 := ⟨_, rfl⟩
      rw [← hS4] at q3 y3
      have c4 : ∀ wx, RfcT wx → _ := fun wx => rfc_Parse S4 wx (by omega)
      have H4 := Lib.hid hS4
      clear hS4
      rw [q1] at c2
      rw [q2] at c3
      rw [q3] at c4
      clear q1 q2 q3 y0
      go_enter Tryd.func7, Tryd.ntmps7
      (go_wp2_with fail); (refine (c1 _ hT).mono ?_); (rintro e w1 ⟨rfl, b1⟩)
      have t1 := RfcT_below hT b1
      (go_wp2_with fail); (refine (c2 _ t1).mono ?_); (rintro e w2 ⟨rfl, b2⟩)
      have t2 := RfcT_below t1 b2
      (go_wp2_with fail); (refine (c3 _ t2).mono ?_); (rintro e w3 ⟨rfl, b3⟩)
      have t3 := RfcT_below t2 b3
      go_wp2_with fail
      rw [← H4.out]
      refine (c4 _ t3).mono ?_
      rintro e w4 ⟨rfl, b4⟩
      have t4 := RfcT_below t3 b4
      (go_wp2_with fail); (refine (rfc_alive _ t4).mono ?_); (rintro e w5 ⟨rfl, b5⟩)
      go_wp2
      go_ret
      have s1 := b1.size; have s2 := b2.size; have s3 := b3.size; have s4 := b4.size
      exact ⟨by simp, (((b1.trans (b2.mono (by omega))).trans (b3.mono (by omega))).trans (b4.mono (by omega))).trans (b5.mono (by omega))⟩
end Go.Proofs.YtdbpkggjnmapiaaDoor
