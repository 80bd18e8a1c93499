/- The chapter's examples: alive returns true in every world that holds the tables. -/
import Derived.Test.YtcppenmcnhkdhaaDoorTextV
namespace Go.Proofs.YtcppenmcnhkdhaaDoor
open Go.RowKit Go.Lib

theorem exA : chk ⟨#[97, 98, 0]⟩ = (2, 6) := by decide +kernel
theorem exB : chk ⟨#[97, 255]⟩ = (1, 5) := by decide +kernel
theorem exC : decI ⟨#[97, 195, 169]⟩ 1 = (233, 2) := by decide +kernel
theorem exD : ofBytes (collapse (ByteArray.data ⟨#[10, 97, 32, 32, 98, 9]⟩).toList) = ⟨#[97, 32, 98]⟩ := by rfl
theorem exE : isNameB ⟨#[97, 45, 49]⟩ = true := by decide +kernel
theorem exF : isNameB ⟨#[97, 58, 98]⟩ = false := by decide +kernel
theorem exG : validB ⟨#[97, 32, 98]⟩ = true := by decide +kernel
theorem exH : isCharB 9 = true := by decide
theorem exI : nameStartB 95 = true := by decide
theorem exJ : nameCharB 46 = true := by decide
theorem exK : isSpaceB 10 = true := by decide

set_option maxRecDepth 100000 in
set_option maxHeartbeats 4000000 in
theorem law_alive (w : World) (hT : HasTabs w) :
    Calls Tryd.prog 10 #[] w fun e w' => e = .returned (.bool true) ∧ Below w.heap.size w w' := by
  have cA : ∀ wx, HasTabs wx → Calls Tryd.prog 13 #[.string ⟨#[97, 98, 0]⟩] wx fun e w' => e = .returned (.tuple #[.int .i64 2, .int .i64 6]) ∧ Below wx.heap.size wx w' := fun wx h => by
    have := text_Check ⟨#[97, 98, 0]⟩ wx (by decide) h; rw [exA] at this; exact this
  have cB : ∀ wx, HasTabs wx → Calls Tryd.prog 13 #[.string ⟨#[97, 255]⟩] wx fun e w' => e = .returned (.tuple #[.int .i64 1, .int .i64 5]) ∧ Below wx.heap.size wx w' := fun wx h => by
    have := text_Check ⟨#[97, 255]⟩ wx (by decide) h; rw [exB] at this; exact this
  have cC : ∀ wx, HasTabs wx → Calls Tryd.prog 11 #[.string ⟨#[97, 195, 169]⟩, .int .i64 1] wx fun e w' => e = .returned (.tuple #[.int .i32 233, .int .i64 2]) ∧ Below wx.heap.size wx w' := fun wx h => by
    have := text_Decode ⟨#[97, 195, 169]⟩ 1 wx (by decide) h.1; rw [exC] at this; exact this
  have cD : ∀ wx, Calls Tryd.prog 27 #[.string ⟨#[10, 97, 32, 32, 98, 9]⟩] wx fun e w' => e = .returned (.string ⟨#[97, 32, 98]⟩) ∧ Below wx.heap.size wx w' := fun wx => by
    have := text_Collapse ⟨#[10, 97, 32, 32, 98, 9]⟩ wx (by decide); rw [exD] at this; exact this
  have cE : ∀ wx, HasTabs wx → Calls Tryd.prog 25 #[.string ⟨#[97, 45, 49]⟩] wx fun e w' => e = .returned (.bool true) ∧ Below wx.heap.size wx w' := fun wx h => by
    have := text_IsName ⟨#[97, 45, 49]⟩ wx (by decide) h; rw [exE] at this; exact this
  have cF : ∀ wx, HasTabs wx → Calls Tryd.prog 25 #[.string ⟨#[97, 58, 98]⟩] wx fun e w' => e = .returned (.bool false) ∧ Below wx.heap.size wx w' := fun wx h => by
    have := text_IsName ⟨#[97, 58, 98]⟩ wx (by decide) h; rw [exF] at this; exact this
  have cG : ∀ wx, HasTabs wx → Calls Tryd.prog 15 #[.string ⟨#[97, 32, 98]⟩] wx fun e w' => e = .returned (.bool true) ∧ Below wx.heap.size wx w' := fun wx h => by
    have := text_Valid ⟨#[97, 32, 98]⟩ wx (by decide) h; rw [exG] at this; exact this
  have cH : ∀ wx, Calls Tryd.prog 17 #[.int .i32 9] wx fun e w' => e = .returned (.bool true) ∧ wx = w' := fun wx => by
    have := text_IsChar 9 wx; rw [exH] at this; exact this
  have cI : ∀ wx, HasTabs wx → Calls Tryd.prog 19 #[.int .i32 95] wx fun e w' => e = .returned (.bool true) ∧ Below wx.heap.size wx w' := fun wx h => by
    have := text_IsNameStart 95 wx h.2; rw [exI] at this; exact this
  have cJ : ∀ wx, HasTabs wx → Calls Tryd.prog 21 #[.int .i32 46] wx fun e w' => e = .returned (.bool true) ∧ Below wx.heap.size wx w' := fun wx h => by
    have := text_IsNameChar 46 wx h.2; rw [exJ] at this; exact this
  have cK : ∀ wx, Calls Tryd.prog 23 #[.int .u8 10] wx fun e w' => e = .returned (.bool true) ∧ wx = w' := fun wx => by
    have := text_IsSpace 10 wx; rw [exK] at this; exact this
  go_enter Tryd.func10, Tryd.ntmps10
  go_wp2_with fail
  refine (cA _ hT).mono ?_
  rintro e w1 ⟨rfl, b1⟩
  have t1 := HasTabs_below hT b1
  go_wp2_with fail
  refine (cB _ t1).mono ?_
  rintro e w2 ⟨rfl, b2⟩
  have t2 := HasTabs_below t1 b2
  go_wp2_with fail
  refine (cC _ t2).mono ?_
  rintro e w3 ⟨rfl, b3⟩
  have t3 := HasTabs_below t2 b3
  go_wp2_with fail
  refine (cD _).mono ?_
  rintro e w4 ⟨rfl, b4⟩
  have t4 := HasTabs_below t3 b4
  go_wp2_with fail
  refine (cE _ t4).mono ?_
  rintro e w5 ⟨rfl, b5⟩
  have t5 := HasTabs_below t4 b5
  go_wp2_with fail
  refine (cF _ t5).mono ?_
  rintro e w6 ⟨rfl, b6⟩
  have t6 := HasTabs_below t5 b6
  go_wp2_with fail
  refine (cG _ t6).mono ?_
  rintro e w7 ⟨rfl, b7⟩
  have t7 := HasTabs_below t6 b7
  go_wp2_with fail
  refine (cH _).mono ?_
  rintro e w8 ⟨rfl, rfl⟩
  go_wp2_with fail
  refine (cI _ t7).mono ?_
  rintro e w9 ⟨rfl, b9⟩
  have t9 := HasTabs_below t7 b9
  go_wp2_with fail
  refine (cJ _ t9).mono ?_
  rintro e wa ⟨rfl, ba⟩
  go_wp2_with fail
  refine (cK _).mono ?_
  rintro e wb ⟨rfl, rfl⟩
  go_wp2
  go_ret
  have s1 := b1.size; have s2 := b2.size; have s3 := b3.size; have s4 := b4.size; have s5 := b5.size; have s6 := b6.size; have s7 := b7.size; have s9 := b9.size
  refine ⟨rfl, ?_⟩
  exact ((((((((b1.trans (b2.mono (by omega))).trans (b3.mono (by omega))).trans (b4.mono (by omega))).trans (b5.mono (by omega))).trans (b6.mono (by omega))).trans (b7.mono (by omega))).trans (b9.mono (by omega))).trans (ba.mono (by omega)))
end Go.Proofs.YtcppenmcnhkdhaaDoor
