/- Valid of package text: what it returns for every string. -/
import Derived.Test.YtcppenmcnhkdhaaDoorTextF
import Derived.Test.YtcppenmcnhkdhaaDoorTextE
namespace Go.Proofs.YtcppenmcnhkdhaaDoor
open Go.RowKit Go.Lib

def validB (s : ByteArray) : Bool := decide ((chk s).2 = 0) && (collapse s.data.toList == s.data.toList)
theorem eq_bytes (l : List UInt8) (s : ByteArray) : ((ofBytes l).toList == s.toList) = (l == s.data.toList) := by
  rw [Lib.toList_data, Lib.toList_data, ofBytes_list]

set_option maxHeartbeats 1000000 in
theorem text_Valid (s : ByteArray) (w : World) (hs : s.size ≤ 70368744177664) (hT : HasTabs w) :
    Calls Tryd.prog 15 #[.string s] w fun e w' => e = .returned (.bool (validB s)) ∧ Below w.heap.size w w' := by
  have hc := text_Check s w (by unfold maxLen; omega) hT
  have hk : ∀ wx, _ := fun wx => text_Collapse s wx hs
  unfold validB
  generalize chk s = d at hc ⊢
  have he := eq_bytes (collapse s.data.toList) s
  generalize ofBytes (collapse s.data.toList) = t at hk he
  have HE := Lib.hid he
  clear he
  obtain ⟨a, b⟩ := d
  simp only at hc ⊢
  by_cases hb0 : b = 0
  · subst hb0
    go_enter Tryd.func15, Tryd.ntmps15
    go_wp2_with (first | (go_at_call 13; refine hc.mono ?_; rintro e w1 ⟨rfl, hb⟩) | (go_at_call 27; refine (hk _).mono ?_; rintro e w2 ⟨rfl, hb2⟩))
    go_ret
    exact ⟨retb (by rw [HE.out]; simp), hb.trans (hb2.mono hb.size)⟩
  · have hbz : ((b : Int) == 0) = false := by simp; omega
    go_enter Tryd.func15, Tryd.ntmps15
    go_wp2_with (first | (go_at_call 13; refine hc.mono ?_; rintro e w1 ⟨rfl, hb⟩))
    go_ret
    exact ⟨retb (by simp [hb0]), hb⟩
end Go.Proofs.YtcppenmcnhkdhaaDoor
