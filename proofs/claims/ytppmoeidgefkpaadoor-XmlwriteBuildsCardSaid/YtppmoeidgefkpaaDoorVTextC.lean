/- Packed from the texts TextC. -/
import Derived.Test.YtppmoeidgefkpaaDoorVTextB
section
namespace Go.Proofs.YtppmoeidgefkpaaDoor
open Go.RowKit
set_option maxHeartbeats 1000000 in
theorem text_IsNameStart (r : Int) (w : World) (hT : HasSpans w) :
    Calls Tryd.prog 57 #[.int .i32 r] w fun e w' => e = .returned (.bool (nameStartB r)) ∧ Below w.heap.size w w' := by
  have HE := Lib.hid (spanOf_eq r)
  have hc := text_findNameSpan r w hT
  generalize spanOf r = sp at hc HE
  generalize inSpan r = found at hc HE
  obtain ⟨lo, hi, st⟩ := sp
  cases found
  all_goals
  go_enter Tryd.func57, Tryd.ntmps57
  go_wp2_with (go_at_call 60; refine hc.mono ?_; rintro e w1 ⟨rfl, hb⟩)
  all_goals go_ret
  all_goals (have hz := hb.size; exact ⟨retb (by have h := HE.out; simpa using h), by (repeat (first | exact hb | apply Below.drew | (refine Below.setCell ?_ (by first | omega | (simp; done) | (simp; omega)) _) | (refine Below.alloc ?_ (by first | omega | (simp; done) | (simp; omega)) _)))⟩)
set_option maxHeartbeats 1000000 in
theorem text_IsNameChar (r : Int) (w : World) (hT : HasSpans w) :
    Calls Tryd.prog 58 #[.int .i32 r] w fun e w' => e = .returned (.bool (nameCharB r)) ∧ Below w.heap.size w w' := by
  have HE := Lib.hid (inSpan_eq r)
  have hc := text_findNameSpan r w hT
  generalize spanOf r = sp at hc
  generalize inSpan r = found at hc HE
  obtain ⟨lo, hi, st⟩ := sp
  go_enter Tryd.func58, Tryd.ntmps58
  go_wp2_with (go_at_call 60; refine hc.mono ?_; rintro e w1 ⟨rfl, hb⟩)
  all_goals go_ret
  all_goals (have hz := hb.size; exact ⟨retb HE.out, by (repeat (first | exact hb | apply Below.drew | (refine Below.setCell ?_ (by first | omega | (simp; done) | (simp; omega)) _) | (refine Below.alloc ?_ (by first | omega | (simp; done) | (simp; omega)) _)))⟩)
end Go.Proofs.YtppmoeidgefkpaaDoor
end
