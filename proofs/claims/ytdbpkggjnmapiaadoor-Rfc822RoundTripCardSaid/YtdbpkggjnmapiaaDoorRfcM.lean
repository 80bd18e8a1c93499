/- The walks of two laws of layer 4: Format and Parse give what the reference gives. -/
import Derived.Test.YtdbpkggjnmapiaaDoorRfcL
namespace Go.Proofs.YtdbpkggjnmapiaaDoor
open Go.RowKit

set_option maxRecDepth 100000 in
set_option maxHeartbeats 2000000 in
theorem walk_RfcFormat (t : Int) (w : World) (hT : RfcT w) :
    Calls Tryd.prog 3 #[.int .i64 t] w fun e w' => e = .returned (.bool true) ∧ Below w.heap.size w w' := by
  rcases hin : inTime t with _ | _
  · have c1 : ∀ wx, RfcT wx → _ := fun wx => rfc_Format_no t wx hin
    have c2 : ∀ wx, _ := fun wx => rref_Format_no t wx hin
    go_enter Tryd.func3, Tryd.ntmps3
    (go_wp2_with fail); (refine (c1 _ hT).mono ?_); (rintro e w1 ⟨rfl, b1⟩)
    have t1 := RfcT_below hT b1
    (go_wp2_with fail); (refine (c2 _).mono ?_); (rintro e w' ⟨rfl, rfl⟩)
    (go_wp2_with fail); (refine (rfc_alive _ t1).mono ?_); (rintro e w2 ⟨rfl, b2⟩)
    go_wp2
    go_ret
    have s1 := b1.size
    exact ⟨by simp, b1.trans (b2.mono (by omega))⟩
  · obtain ⟨y, m, d, h, mi, s, hv, hc, rfl⟩ := time_exists t hin
    have c1 : ∀ wx, RfcT wx → _ := fun wx => rfc_Format_yes y m d h mi s wx hv hc
    have c2 : ∀ wx, _ := fun wx => rref_Format_yes y m d h mi s wx hv hc
    generalize strOfNums (fmt822 y m d h mi s) = f at c1 c2
    generalize timeI y m d h mi s = t at *
    clear hv hc hin
    go_enter Tryd.func3, Tryd.ntmps3
    (go_wp2_with fail); (refine (c1 _ hT).mono ?_); (rintro e w1 ⟨rfl, b1⟩)
    have t1 := RfcT_below hT b1
    go_wp2_with fail
    refine (c2 _).mono ?_
    rintro e w2 ⟨rfl, b2⟩
    have t2 := RfcT_below t1 b2
    (go_wp2_with fail); (refine (rfc_alive _ t2).mono ?_); (rintro e w3 ⟨rfl, b3⟩)
    go_wp2
    go_ret
    have s1 := b1.size; have s2 := b2.size
    exact ⟨by simp, ((b1).trans (b2.mono (by omega))).trans (b3.mono (by omega))⟩

set_option maxRecDepth 100000 in
set_option maxHeartbeats 2000000 in
theorem walk_RfcParse (s : ByteArray) (w : World) (hT : RfcT w) :
    Calls Tryd.prog 4 #[.string s] w fun e w' => e = .returned (.bool true) ∧ Below w.heap.size w w' := by
  by_cases h5 : (5000 : Int) < (s.size : Int)
  · go_enter Tryd.func4, Tryd.ntmps4
    (go_wp2_with fail); (refine (rfc_alive _ hT).mono ?_); (rintro e w1 ⟨rfl, b1⟩)
    go_wp2
    go_ret
    exact ⟨rfl, b1⟩
  · have c1 : ∀ wx, RfcT wx → _ := fun wx => rfc_Parse s wx (by omega)
    have c2 : ∀ wx, _ := fun wx => rref_Parse s wx (by omega)
    generalize parse822 s = v at *
    obtain ⟨v1, v2⟩ := v
    simp only at c1 c2
    go_enter Tryd.func4, Tryd.ntmps4
    (go_wp2_with fail); (refine (c1 _ hT).mono ?_); (rintro e w1 ⟨rfl, b1⟩)
    have t1 := RfcT_below hT b1
    go_wp2_with fail
    refine (c2 _).mono ?_
    rintro e w2 ⟨rfl, b2⟩
    have t2 := RfcT_below t1 b2
    (go_wp2_with fail); (refine (rfc_alive _ t2).mono ?_); (rintro e w3 ⟨rfl, b3⟩)
    go_wp2
    go_ret
    have s1 := b1.size; have s2 := b2.size
    exact ⟨by simp, ((b1).trans (b2.mono (by omega))).trans (b3.mono (by omega))⟩
end Go.Proofs.YtdbpkggjnmapiaaDoor
