/- The walk of the law of layer 4 on the round trip: Parse inverts Format, also in upper or lower case. -/
import Derived.Test.YtdbpkggjnmapiaaDoorRfcL
import Derived.Test.YtdbpkggjnmapiaaDoorShelf
namespace Go.Proofs.YtdbpkggjnmapiaaDoor
open Go.RowKit

theorem rfc_ToLower (s : ByteArray) (w : World) (hs : s.size ≤ 100) (ha : s.data.toList.all asc = true) :
    Calls Tryd.prog 14 #[.string s] w fun e w' => e = .returned (.string (ofBytes (s.data.toList.map Lib.lowerB))) ∧ Below w.heap.size w w' :=
  Tryd.strings_ToLower_ascii s w (by omega) fun j b hb => of_decide_eq_true (List.all_eq_true.1 ha b (List.mem_of_getElem? hb))
theorem rfc_ToUpper (s : ByteArray) (w : World) (hs : s.size ≤ 100) (ha : s.data.toList.all asc = true) :
    Calls Tryd.prog 15 #[.string s] w fun e w' => e = .returned (.string (ofBytes (s.data.toList.map Lib.upperB))) ∧ Below w.heap.size w w' :=
  Tryd.strings_ToUpper_ascii s w (by omega) fun j b hb => of_decide_eq_true (List.all_eq_true.1 ha b (List.mem_of_getElem? hb))

set_option maxRecDepth 100000 in
set_option maxHeartbeats 4000000 in
theorem walk_RfcRound (t : Int) (w : World) (hT : RfcT w) :
    Calls Tryd.prog 5 #[.int .i64 t] w fun e w' => e = .returned (.bool true) ∧ Below w.heap.size w w' := by
  rcases hin : inTime t with _ | _
  · have c1 : ∀ wx, RfcT wx → _ := fun wx => rfc_Format_no t wx hin
    have ht : t < -62135596800 ∨ (-62135596800 ≤ t ∧ 253402300799 < t) := by have := of_decide_eq_false hin; omega
    clear hin
    rcases ht with ht | ⟨ht, ht'⟩
    all_goals
      go_enter Tryd.func5, Tryd.ntmps5
      (go_wp2_with fail); (refine (c1 _ hT).mono ?_); (rintro e w1 ⟨rfl, b1⟩)
      have t1 := RfcT_below hT b1
      (go_wp2_with fail); (refine (rfc_alive _ t1).mono ?_); (rintro e w2 ⟨rfl, b2⟩)
      go_wp2
      go_ret
      have s1 := b1.size
      exact ⟨by simp, b1.trans (b2.mono (by omega))⟩
  · obtain ⟨y, m, d, h, mi, s, hv, hc, rfl⟩ := time_exists t hin
    have c1 : ∀ wx, RfcT wx → _ := fun wx => rfc_Format_yes y m d h mi s wx hv hc
    have hsz : (strOfNums (fmt822 y m d h mi s)).size = 29 := by rw [str_size, fmt822_length _ _ _ _ _ _ ⟨hv.2.2.1, hv.2.2.2.1⟩]
    have hl : (strOfNums (fmt822 y m d h mi s)).data.toList = nb (fmt822 y m d h mi s) := strOfNums_data _
    have hp := parse822_fmt y m d h mi s hv hc
    have ha := fmt_asc y m d h mi s hv hc
    have p2 := lower_case.parse (nb (fmt822 y m d h mi s))
    have p3 := upper_case.parse (nb (fmt822 y m d h mi s))
    rw [← nb_str, hp] at p2 p3
    generalize hf : strOfNums (fmt822 y m d h mi s) = f at *
    rw [← hl] at ha p2 p3
    have c2 : ∀ wx, RfcT wx → _ := fun wx => rfc_Parse f wx (by omega)
    have c3 : ∀ wx, _ := fun wx => rfc_ToLower f wx (by omega) ha
    have c4 : ∀ wx, _ := fun wx => rfc_ToUpper f wx (by omega) ha
    have z2 : (ofBytes (f.data.toList.map Lib.lowerB)).size = 29 := by rw [ofBytes_size, List.length_map]; simpa using hsz
    have z3 : (ofBytes (f.data.toList.map Lib.upperB)).size = 29 := by rw [ofBytes_size, List.length_map]; simpa using hsz
    generalize ofBytes (f.data.toList.map Lib.lowerB) = fl at *
    generalize ofBytes (f.data.toList.map Lib.upperB) = fu at *
    have c5 : ∀ wx, RfcT wx → _ := fun wx => rfc_Parse fl wx (by omega)
    have c6 : ∀ wx, RfcT wx → _ := fun wx => rfc_Parse fu wx (by omega)
    rw [hp] at c2
    rw [p2] at c5
    rw [p3] at c6
    generalize timeI y m d h mi s = t at *
    clear hl ha hp p2 p3 hf hv hc hin z2 z3
    go_enter Tryd.func5, Tryd.ntmps5
    (go_wp2_with fail); (refine (c1 _ hT).mono ?_); (rintro e w1 ⟨rfl, b1⟩)
    have t1 := RfcT_below hT b1
    (go_wp2_with fail); (refine (c2 _ t1).mono ?_); (rintro e w2 ⟨rfl, b2⟩)
    have t2 := RfcT_below t1 b2
    go_wp2_with fail
    refine (c3 _).mono ?_
    rintro e w3 ⟨rfl, b3⟩
    have t3 := RfcT_below t2 b3
    (go_wp2_with fail); (refine (c5 _ t3).mono ?_); (rintro e w4 ⟨rfl, b4⟩)
    have t4 := RfcT_below t3 b4
    go_wp2_with fail
    refine (c4 _).mono ?_
    rintro e w5 ⟨rfl, b5⟩
    have t5 := RfcT_below t4 b5
    (go_wp2_with fail); (refine (c6 _ t5).mono ?_); (rintro e w6 ⟨rfl, b6⟩)
    have t6 := RfcT_below t5 b6
    (go_wp2_with fail); (refine (rfc_alive _ t6).mono ?_); (rintro e w7 ⟨rfl, b7⟩)
    go_wp2
    go_ret
    have s1 := b1.size; have s2 := b2.size; have s3 := b3.size; have s4 := b4.size; have s5 := b5.size; have s6 := b6.size
    exact ⟨by simp, (((((b1.trans (b2.mono (by omega))).trans (b3.mono (by omega))).trans (b4.mono (by omega))).trans (b5.mono (by omega))).trans (b6.mono (by omega))).trans (b7.mono (by omega))⟩
end Go.Proofs.YtdbpkggjnmapiaaDoor
