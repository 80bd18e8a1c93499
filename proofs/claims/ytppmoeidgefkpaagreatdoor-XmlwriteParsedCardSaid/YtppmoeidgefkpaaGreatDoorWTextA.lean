/- Packed from the texts TextA. -/
import Derived.Test.YtppmoeidgefkpaaGreatDoorChecked
import Derived.WalkKit
import Derived.WalkSpells
import Derived.Lib.Hide
import Derived.Deep.DeepCutAuto
set_option maxRecDepth 100000
namespace Go.Proofs.YtppmoeidgefkpaaGreatDoor
section
open Go.RowKit
def isSpaceB (c : Int) : Bool := c == 9 || c == 10 || c == 13 || c == 32
def isCharB (r : Int) : Bool := decide (r = 9 ∨ r = 10 ∨ r = 13 ∨ (32 ≤ r ∧ r ≤ 55295) ∨ (57344 ≤ r ∧ r ≤ 65533) ∨ (65536 ≤ r ∧ r ≤ 1114111))
def nsLetter (r : Int) : Bool := decide ((65 ≤ r ∧ r ≤ 90) ∨ (97 ≤ r ∧ r ≤ 122) ∨ r = 95)
def nsLow (r : Int) : Bool := decide ((192 ≤ r ∧ r ≤ 767 ∧ r ≠ 215 ∧ r ≠ 247) ∨ (880 ≤ r ∧ r ≤ 8191 ∧ r ≠ 894))
def nsMiddle (r : Int) : Bool := decide (r = 8204 ∨ r = 8205 ∨ (8304 ≤ r ∧ r ≤ 8591) ∨ (11264 ≤ r ∧ r ≤ 12271) ∨ (12289 ≤ r ∧ r ≤ 55295))
def nsHigh (r : Int) : Bool := decide ((63744 ≤ r ∧ r ≤ 64975) ∨ (65008 ≤ r ∧ r ≤ 65533) ∨ (65536 ≤ r ∧ r ≤ 983039))
def nameStartB (r : Int) : Bool := nsLetter r || nsLow r || nsMiddle r || nsHigh r
def nameCharB (r : Int) : Bool := nameStartB r || decide ((48 ≤ r ∧ r ≤ 57) ∨ r = 45 ∨ r = 46 ∨ r = 183 ∨ (768 ≤ r ∧ r ≤ 879) ∨ r = 8255 ∨ r = 8256)
theorem retb {a b : Bool} (h : a = b) : Ending.returned (.bool a) = .returned (.bool b) := by rw [h]
set_option maxHeartbeats 400000 in
theorem text_IsSpace (c : Int) (w : World) :
  Calls Tryz.prog 95 #[.int .u8 c] w fun e w' => e = .returned (.bool (isSpaceB c)) ∧ w = w' := by
 go_enter Tryz.func95, Tryz.ntmps95
 go_wp2
 all_goals go_ret
 all_goals (refine ⟨retb ?_, rfl⟩; simp_all [isSpaceB])
set_option maxHeartbeats 400000 in
theorem ref_IsSpace (c : Int) (w : World) :
  Calls Tryz.prog 52 #[.int .u8 c] w fun e w' => e = .returned (.bool (isSpaceB c)) ∧ w = w' := by
 go_enter Tryz.func52, Tryz.ntmps52
 go_wp2
 all_goals go_ret
 all_goals (refine ⟨retb ?_, rfl⟩; simp_all [isSpaceB])
set_option maxHeartbeats 1000000 in
theorem text_IsChar (r : Int) (w : World) :
  Calls Tryz.prog 61 #[.int .i32 r] w fun e w' => e = .returned (.bool (isCharB r)) ∧ w = w' := by
 go_enter Tryz.func61, Tryz.ntmps61
 go_wp2
 all_goals go_ret
 all_goals (refine ⟨retb ?_, rfl⟩; rw [Bool.eq_iff_iff]; simp [isCharB]; try omega)
set_option maxHeartbeats 1000000 in
theorem ref_IsChar (r : Int) (w : World) :
  Calls Tryz.prog 72 #[.int .i64 r] w fun e w' => e = .returned (.bool (isCharB r)) ∧ w = w' := by
 go_enter Tryz.func72, Tryz.ntmps72
 go_wp2
 all_goals go_ret
 all_goals (refine ⟨retb ?_, rfl⟩; rw [Bool.eq_iff_iff]; simp [isCharB]; try omega)
theorem boolv {a b : Bool} (h : a = b) : Value.bool a = Value.bool b := by rw [h]
set_option maxHeartbeats 4000000 in
theorem ref_IsNameStart (r : Int) (w : World) :
  Calls Tryz.prog 56 #[.int .i64 r] w fun e w' => e = .returned (.bool (nameStartB r)) ∧ w = w' := by
 go_enter Tryz.func56, Tryz.ntmps56
 go_upto_region 1 with fail
 go_cut [3] (fun s wx => s = .bool (nsLetter r) ∧ w = wx)
 case first =>
  go_wp2
  all_goals (try subst_vars)
  all_goals go_meet
  all_goals (refine ⟨boolv ?_, rfl⟩; rw [Bool.eq_iff_iff]; simp [nsLetter]; try omega)
 case rest =>
 obtain ⟨rfl, rfl⟩ := hcut
 go_upto_region 2 with fail
 go_cut [4] (fun s wx => s = .bool (nsLow r) ∧ w = wx)
 case first =>
  go_wp2
  all_goals (try subst_vars)
  all_goals go_meet
  all_goals (refine ⟨boolv ?_, rfl⟩; rw [Bool.eq_iff_iff]; simp [nsLow]; try omega)
 case rest =>
 obtain ⟨rfl, rfl⟩ := hcut
 go_upto_region 3 with fail
 go_cut [5] (fun s wx => s = .bool (nsMiddle r) ∧ w = wx)
 case first =>
  go_wp2
  all_goals (try subst_vars)
  all_goals go_meet
  all_goals (refine ⟨boolv ?_, rfl⟩; rw [Bool.eq_iff_iff]; simp [nsMiddle]; try omega)
 case rest =>
 obtain ⟨rfl, rfl⟩ := hcut
 go_upto_region 4 with fail
 go_cut [6] (fun s wx => s = .bool (nsHigh r) ∧ w = wx)
 case first =>
  go_wp2
  all_goals (try subst_vars)
  all_goals go_meet
  all_goals (refine ⟨boolv ?_, rfl⟩; rw [Bool.eq_iff_iff]; simp [nsHigh]; try omega)
 case rest =>
 obtain ⟨rfl, rfl⟩ := hcut
 go_wp2
 all_goals go_ret
 all_goals (refine ⟨retb ?_, rfl⟩; simp_all [nameStartB])
end
end Go.Proofs.YtppmoeidgefkpaaGreatDoor
