/- The walk of alive of layer 5: the chapter's examples. It leans on the contracts of package xmlescape (the text EscV): esc_Text, esc_Attr, esc_Reference, esc_Unescape, each in every world that meets EscT. -/
import Derived.Test.YtofoloidllkfaaaDoorEscV
namespace Go.Proofs.YtofoloidllkfaaaDoor
open Go.RowKit

set_option maxRecDepth 100000 in
theorem esc_ex : refP (⟨#[38, 35, 120, 52, 49, 59]⟩ : ByteArray).data.toList 0 = (65, 6, 0) ∧ refP (⟨#[120, 38, 35, 48, 48, 54, 53, 59, 121]⟩ : ByteArray).data.toList 1 = (65, 8, 0) ∧ unP (⟨#[97, 38, 35, 48, 59]⟩ : ByteArray).data.toList = ([], 1, 12) ∧ unP (⟨#[38, 108, 116, 59, 98, 38, 103, 116, 59]⟩ : ByteArray).data.toList = ([60, 98, 62], 9, 0) ∧ escP false (⟨#[97, 60, 98]⟩ : ByteArray).data.toList = [97, 38, 108, 116, 59, 98] ∧ escP true (⟨#[34, 10]⟩ : ByteArray).data.toList = [38, 113, 117, 111, 116, 59, 38, 35, 49, 48, 59] := by decide
set_option maxRecDepth 100000 in
set_option maxHeartbeats 4000000 in
theorem esc_alive (w : World) (hT : EscT w) :
    Calls Tryd.prog 9 #[] w fun e w' => e = .returned (.bool true) ∧ Below w.heap.size w w' := by
  have c1 : ∀ wx, EscT wx → _ := fun wx => esc_Reference ⟨#[38, 35, 120, 52, 49, 59]⟩ 0 wx (by decide)
  have c2 : ∀ wx, EscT wx → _ := fun wx => esc_Reference ⟨#[120, 38, 35, 48, 48, 54, 53, 59, 121]⟩ 1 wx (by decide)
  have c3 : ∀ wx, EscT wx → _ := fun wx => esc_Unescape ⟨#[97, 38, 35, 48, 59]⟩ wx (by decide)
  have c4 : ∀ wx, EscT wx → _ := fun wx => esc_Unescape ⟨#[38, 108, 116, 59, 98, 38, 103, 116, 59]⟩ wx (by decide)
  have c5 : ∀ wx, EscT wx → _ := fun wx => esc_Text ⟨#[97, 60, 98]⟩ wx (by decide)
  have c6 : ∀ wx, EscT wx → _ := fun wx => esc_Attr ⟨#[34, 10]⟩ wx (by decide)
  obtain ⟨e1, e2, e3, e4, e5, e6⟩ := esc_ex
  rw [e1] at c1
  rw [e2] at c2
  rw [e3] at c3
  rw [e4] at c4
  rw [e5] at c5
  rw [e6] at c6
  rw [show ofBytes [] = ⟨#[]⟩ from rfl] at c3
  rw [show ofBytes [60, 98, 62] = ⟨#[60, 98, 62]⟩ from rfl] at c4
  rw [show ofBytes [97, 38, 108, 116, 59, 98] = ⟨#[97, 38, 108, 116, 59, 98]⟩ from rfl] at c5
  rw [show ofBytes [38, 113, 117, 111, 116, 59, 38, 35, 49, 48, 59] = ⟨#[38, 113, 117, 111, 116, 59, 38, 35, 49, 48, 59]⟩ from rfl] at c6
  clear e1 e2 e3 e4 e5 e6
  go_enter Tryd.func9, Tryd.ntmps9
  (go_wp2_with fail); (refine (c1 _ hT).mono ?_); (rintro e w1 ⟨rfl, b1⟩)
  have t1 := EscT_below hT b1
  (go_wp2_with fail); (refine (c2 _ t1).mono ?_); (rintro e w2 ⟨rfl, b2⟩)
  have t2 := EscT_below t1 b2
  (go_wp2_with fail); (refine (c3 _ t2).mono ?_); (rintro e w3 ⟨rfl, b3⟩)
  have t3 := EscT_below t2 b3
  (go_wp2_with fail); (refine (c4 _ t3).mono ?_); (rintro e w4 ⟨rfl, b4⟩)
  have t4 := EscT_below t3 b4
  (go_wp2_with fail); (refine (c5 _ t4).mono ?_); (rintro e w5 ⟨rfl, b5⟩)
  have t5 := EscT_below t4 b5
  (go_wp2_with fail); (refine (c6 _ t5).mono ?_); (rintro e w6 ⟨rfl, b6⟩)
  go_wp2
  go_ret
  have s1 := b1.size; have s2 := b2.size; have s3 := b3.size; have s4 := b4.size; have s5 := b5.size
  exact ⟨by simp, ((((b1.trans (b2.mono (by omega))).trans (b3.mono (by omega))).trans (b4.mono (by omega))).trans (b5.mono (by omega))).trans (b6.mono (by omega))⟩
end Go.Proofs.YtofoloidllkfaaaDoor
