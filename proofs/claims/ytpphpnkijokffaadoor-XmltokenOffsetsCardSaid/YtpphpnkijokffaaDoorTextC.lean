/- IsNameStart and IsNameChar of package text, and IsNameChar of the reference: what each call returns. -/
import Derived.Test.YtpphpnkijokffaaDoorTextB
namespace Go.Proofs.YtpphpnkijokffaaDoor
open Go.RowKit

set_option maxHeartbeats 1000000 in
theorem text_IsNameStart (r : Int) (w : World) (hT : HasSpans w) :
    Calls Tryd.prog 50 #[.int .i32 r] w fun e w' => e = .returned (.bool (nameStartB r)) ∧ Below w.heap.size w w' := by
  have HE := Lib.hid (spanOf_eq r)
  have hc := text_findNameSpan r w hT
  generalize spanOf r = sp at hc HE
  generalize inSpan r = found at hc HE
  obtain ⟨lo, hi, st⟩ := sp
  cases found
  all_goals
  go_enter Tryd.func50, Tryd.ntmps50
  go_wp2_with (go_at_call 68; refine hc.mono ?_; rintro e w1 ⟨rfl, hb⟩)
  all_goals go_ret
  all_goals (have hz := hb.size; exact ⟨retb (by have h := HE.out; simpa using h), by (repeat (first | exact hb | apply Below.drew | (refine Below.setCell ?_ (by first | omega | (simp; done) | (simp; omega)) _) | (refine Below.alloc ?_ (by first | omega | (simp; done) | (simp; omega)) _)))⟩)

set_option maxHeartbeats 1000000 in
theorem text_IsNameChar (r : Int) (w : World) (hT : HasSpans w) :
    Calls Tryd.prog 51 #[.int .i32 r] w fun e w' => e = .returned (.bool (nameCharB r)) ∧ Below w.heap.size w w' := by
  have HE := Lib.hid (inSpan_eq r)
  have hc := text_findNameSpan r w hT
  generalize spanOf r = sp at hc
  generalize inSpan r = found at hc HE
  obtain ⟨lo, hi, st⟩ := sp
  go_enter Tryd.func51, Tryd.ntmps51
  go_wp2_with (go_at_call 68; refine hc.mono ?_; rintro e w1 ⟨rfl, hb⟩)
  all_goals go_ret
  all_goals (have hz := hb.size; exact ⟨retb HE.out, by (repeat (first | exact hb | apply Below.drew | (refine Below.setCell ?_ (by first | omega | (simp; done) | (simp; omega)) _) | (refine Below.alloc ?_ (by first | omega | (simp; done) | (simp; omega)) _)))⟩)

end Go.Proofs.YtpphpnkijokffaaDoor
