/- Packed from the texts TextC. -/
import Derived.Test.YtppmoeidgefkpaaGreatDoorWTextB
namespace Go.Proofs.YtppmoeidgefkpaaGreatDoor
section
open Go.RowKit
set_option maxHeartbeats 1000000 in
theorem text_IsNameStart (r : Int) (w : World) (hT : HasSpans w) :
  Calls Tryz.prog 135 #[.int .i32 r] w fun e w' => e = .returned (.bool (nameStartB r)) ∧ Below w.heap.size w w' := by
 have HE := Lib.hid (spanOf_eq r)
 have hc := text_findNameSpan r w hT
 generalize spanOf r = sp at hc HE
 generalize inSpan r = found at hc HE
 obtain ⟨lo, hi, st⟩ := sp
 cases found
 all_goals
 go_enter Tryz.func135, Tryz.ntmps135
 go_wp2_with (go_at_call 145; refine hc.mono ?_; rintro e w1 ⟨rfl, hb⟩)
 all_goals go_ret
 all_goals (have hz := hb.size; exact ⟨retb (by have h := HE.out; simpa using h), by (repeat (first | exact hb | apply Below.drew | (refine Below.setCell ?_ (by first | omega | (simp; done) | (simp; omega)) _) | (refine Below.alloc ?_ (by first | omega | (simp; done) | (simp; omega)) _)))⟩)
set_option maxHeartbeats 1000000 in
theorem text_IsNameChar (r : Int) (w : World) (hT : HasSpans w) :
  Calls Tryz.prog 136 #[.int .i32 r] w fun e w' => e = .returned (.bool (nameCharB r)) ∧ Below w.heap.size w w' := by
 have HE := Lib.hid (inSpan_eq r)
 have hc := text_findNameSpan r w hT
 generalize spanOf r = sp at hc
 generalize inSpan r = found at hc HE
 obtain ⟨lo, hi, st⟩ := sp
 go_enter Tryz.func136, Tryz.ntmps136
 go_wp2_with (go_at_call 145; refine hc.mono ?_; rintro e w1 ⟨rfl, hb⟩)
 all_goals go_ret
 all_goals (have hz := hb.size; exact ⟨retb HE.out, by (repeat (first | exact hb | apply Below.drew | (refine Below.setCell ?_ (by first | omega | (simp; done) | (simp; omega)) _) | (refine Below.alloc ?_ (by first | omega | (simp; done) | (simp; omega)) _)))⟩)
set_option maxHeartbeats 1000000 in
theorem ref_IsNameChar (r : Int) (w : World) :
  Calls Tryz.prog 55 #[.int .i64 r] w fun e w' => e = .returned (.bool (nameCharB r)) ∧ w = w' := by
 have hc := ref_IsNameStart r w
 unfold nameCharB
 generalize nameStartB r = st at hc
 cases st
 all_goals
  go_enter Tryz.func55, Tryz.ntmps55
  go_wp2_with (go_at_call 56; refine hc.mono ?_; rintro e w1 ⟨rfl, rfl⟩)
  all_goals go_ret
  all_goals (refine ⟨retb ?_, rfl⟩; first | rfl | (rw [Bool.eq_iff_iff]; simp; done) | (rw [Bool.eq_iff_iff]; simp; omega))
end
end Go.Proofs.YtppmoeidgefkpaaGreatDoor
