/- The walks of the laws of layer 3. They lean on three contracts of package rfc3339 (the text DatD): dat_Format_yes, dat_Format_no, dat_Parse, each in every world that meets DatT. -/
import Derived.Test.YtmcokldninhgdaaDoorDatD
namespace Go.Proofs.YtmcokldninhgdaaDoor
open Go.RowKit

theorem fmt1970 : strOfNums (fmtL 1970 1 1 0 0 0) = ⟨#[49, 57, 55, 48, 45, 48, 49, 45, 48, 49, 84, 48, 48, 58, 48, 48, 58, 48, 48, 90]⟩ := by decide
theorem tm1970 : timeI 1970 1 1 0 0 0 = 0 := by decide
theorem ps2022 : parseL (zs ⟨#[50, 48, 50, 50, 45, 48, 49, 45, 48, 56, 84, 48, 49, 58, 51, 48, 58, 48, 48, 46, 53, 43, 48, 49, 58, 51, 48]⟩) = (1641600000, 0) := by decide
theorem ps60 : parseL (zs ⟨#[50, 48, 50, 50, 45, 48, 49, 45, 48, 56, 84, 48, 48, 58, 48, 48, 58, 54, 48, 90]⟩) = (0, 20) := by decide
theorem ps0001 : parseL (zs ⟨#[48, 48, 48, 49, 45, 48, 49, 45, 48, 49, 84, 48, 48, 58, 48, 48, 58, 48, 48, 43, 48, 48, 58, 48, 49]⟩) = (0, 3) := by decide
theorem ok1970d : okDate 1970 1 1 ∧ okClock 0 0 0 := ⟨(okB_iff 1970 1 1).1 (by decide), by unfold okClock; omega⟩

set_option maxRecDepth 100000 in
set_option maxHeartbeats 4000000 in
theorem dat_alive (w : World) (hT : DatT w) :
    Calls Tryd.prog 11 #[] w fun e w' => e = .returned (.bool true) ∧ Below w.heap.size w w' := by
  have c1 : ∀ wx, DatT wx → _ := fun wx => dat_Format_yes 1970 1 1 0 0 0 wx ok1970d.1 ok1970d.2
  have c2 : ∀ wx, DatT wx → _ := fun wx => dat_Parse ⟨#[50, 48, 50, 50, 45, 48, 49, 45, 48, 56, 84, 48, 49, 58, 51, 48, 58, 48, 48, 46, 53, 43, 48, 49, 58, 51, 48]⟩ wx (by decide)
  have c3 : ∀ wx, DatT wx → _ := fun wx => dat_Parse ⟨#[50, 48, 50, 50, 45, 48, 49, 45, 48, 56, 84, 48, 48, 58, 48, 48, 58, 54, 48, 90]⟩ wx (by decide)
  have c4 : ∀ wx, DatT wx → _ := fun wx => dat_Parse ⟨#[48, 48, 48, 49, 45, 48, 49, 45, 48, 49, 84, 48, 48, 58, 48, 48, 58, 48, 48, 43, 48, 48, 58, 48, 49]⟩ wx (by decide)
  rw [tm1970, fmt1970] at c1
  rw [ps2022] at c2
  rw [ps60] at c3
  rw [ps0001] at c4
  go_enter Tryd.func11, Tryd.ntmps11
  (go_wp2_with fail); (refine (c1 _ hT).mono ?_); (rintro e w1 ⟨rfl, b1⟩)
  have t1 := DatT_below hT b1
  (go_wp2_with fail); (refine (c2 _ t1).mono ?_); (rintro e w2 ⟨rfl, b2⟩)
  have t2 := DatT_below t1 b2
  (go_wp2_with fail); (refine (c3 _ t2).mono ?_); (rintro e w3 ⟨rfl, b3⟩)
  have t3 := DatT_below t2 b3
  (go_wp2_with fail); (refine (c4 _ t3).mono ?_); (rintro e w4 ⟨rfl, b4⟩)
  go_wp2
  go_ret
  have s1 := b1.size; have s2 := b2.size; have s3 := b3.size
  exact ⟨by simp, (((b1).trans (b2.mono (by omega))).trans (b3.mono (by omega))).trans (b4.mono (by omega))⟩
end Go.Proofs.YtmcokldninhgdaaDoor
