/- The walk of alive of layer 4: the chapter's examples. It leans on the contracts of package rfc822 (the text RfcV): rfc_Format_yes, rfc_Format_no, rfc_Parse, each in every world that meets RfcT. -/
import Derived.Test.YtdbpkggjnmapiaaDoorRfcV
import Derived.Test.YtdbpkggjnmapiaaDoorRfcK
namespace Go.Proofs.YtdbpkggjnmapiaaDoor
open Go.RowKit

theorem rfmt1970 : strOfNums (fmt822 1970 1 1 0 0 0) = ⟨#[84, 104, 117, 44, 32, 48, 49, 32, 74, 97, 110, 32, 49, 57, 55, 48, 32, 48, 48, 58, 48, 48, 58, 48, 48, 32, 71, 77, 84]⟩ := by decide
theorem rtm1970 : timeI 1970 1 1 0 0 0 = 0 := by decide
set_option maxRecDepth 100000 in
theorem rps22 : parse822 ⟨#[56, 32, 106, 97, 110, 32, 50, 50, 32, 48, 49, 58, 51, 48, 32, 43, 48, 49, 51, 48]⟩ = (1641600000, 0) := by decide
set_option maxRecDepth 100000 in
theorem rps2022 : parse822 ⟨#[56, 32, 74, 97, 110, 32, 50, 48, 50, 50, 32, 48, 49, 58, 51, 48]⟩ = (0, 20) := by decide
set_option maxRecDepth 100000 in
theorem rps32 : parse822 ⟨#[51, 50, 32, 74, 97, 110, 32, 50, 48, 50, 50, 32, 48, 49, 58, 51, 48, 32, 71, 77, 84]⟩ = (0, 20) := by decide
theorem rok1970 : okDate 1970 1 1 ∧ okClock 0 0 0 := ⟨(okB_iff 1970 1 1).1 (by decide), by unfold okClock; omega⟩

set_option maxRecDepth 100000 in
set_option maxHeartbeats 4000000 in
theorem rfc_alive (w : World) (hT : RfcT w) :
    Calls Tryd.prog 11 #[] w fun e w' => e = .returned (.bool true) ∧ Below w.heap.size w w' := by
  have c1 : ∀ wx, RfcT wx → _ := fun wx => rfc_Format_yes 1970 1 1 0 0 0 wx rok1970.1 rok1970.2
  have c2 : ∀ wx, RfcT wx → _ := fun wx => rfc_Parse ⟨#[56, 32, 106, 97, 110, 32, 50, 50, 32, 48, 49, 58, 51, 48, 32, 43, 48, 49, 51, 48]⟩ wx (by decide)
  have c3 : ∀ wx, RfcT wx → _ := fun wx => rfc_Parse ⟨#[56, 32, 74, 97, 110, 32, 50, 48, 50, 50, 32, 48, 49, 58, 51, 48]⟩ wx (by decide)
  have c4 : ∀ wx, RfcT wx → _ := fun wx => rfc_Parse ⟨#[51, 50, 32, 74, 97, 110, 32, 50, 48, 50, 50, 32, 48, 49, 58, 51, 48, 32, 71, 77, 84]⟩ wx (by decide)
  rw [rtm1970, rfmt1970] at c1
  rw [rps22] at c2
  rw [rps2022] at c3
  rw [rps32] at c4
  go_enter Tryd.func11, Tryd.ntmps11
  (go_wp2_with fail); (refine (c1 _ hT).mono ?_); (rintro e w1 ⟨rfl, b1⟩)
  have t1 := RfcT_below hT b1
  (go_wp2_with fail); (refine (c2 _ t1).mono ?_); (rintro e w2 ⟨rfl, b2⟩)
  have t2 := RfcT_below t1 b2
  (go_wp2_with fail); (refine (c3 _ t2).mono ?_); (rintro e w3 ⟨rfl, b3⟩)
  have t3 := RfcT_below t2 b3
  (go_wp2_with fail); (refine (c4 _ t3).mono ?_); (rintro e w4 ⟨rfl, b4⟩)
  go_wp2
  go_ret
  have s1 := b1.size; have s2 := b2.size; have s3 := b3.size
  exact ⟨by simp, (((b1).trans (b2.mono (by omega))).trans (b3.mono (by omega))).trans (b4.mono (by omega))⟩
end Go.Proofs.YtdbpkggjnmapiaaDoor
