/- Packed from the texts TextF. -/
import Derived.Test.YtppmoeidgefkpaaDoorVTextC
import Derived.Test.YtppmoeidgefkpaaDoorVTextK
import Derived.Shelf.Unicode.DecodeSlow
section
namespace Go.Proofs.YtppmoeidgefkpaaDoor
open Go.RowKit Go.Lib
def HasTabs (w : World) : Prop := HasUtf8 w ∧ HasSpans w
theorem HasTabs_below {w w' : World} (h : HasTabs w) (hb : Below w.heap.size w w') : HasTabs w' := ⟨Utf8Tabs_below h.1 hb, HasSpans_below h.2 hb⟩
set_option maxHeartbeats 1000000 in
theorem text_Check (s : ByteArray) (w : World) (hs : s.size ≤ maxLen) (hT : HasTabs w) :
    Calls Tryd.prog 50 #[.string s] w fun e w' => e = .returned (.tuple #[.int .i64 (chk s).1, .int .i64 (chk s).2]) ∧ Below w.heap.size w w' := by
  have hs' := hs
  unfold maxLen at hs
  go_enter Tryd.func50, Tryd.ntmps50
  go_wp2
  go_loopw [4] (fun i wr => ∃ k : Nat, k ≤ s.size ∧ i = .int .i64 k ∧ chk s = chkAt s k ∧ Below w.heap.size w wr) (fun i _ => s.size - (RowKit.intOf i).toNat)
  case atStart => exact ⟨0, Nat.zero_le _, rfl, rfl, Below.refl _ _⟩
  case round =>
    obtain ⟨k, hk, rfl, hf, hbel⟩ := hrel
    have hz := hbel.size
    by_cases hlt : k < s.size
    · have hc := text_Decode s k wr hs' (HasTabs_below hT hbel).1
      have hok := decP_ok s k hlt
      rw [decI_at s k hlt] at hc
      rw [chkAt_eq s k hlt] at hf
      generalize decP s k = d at hc hf hok
      obtain ⟨r, m⟩ := d
      simp only at hc hf hok
      by_cases hm : m = 0
      · subst hm
        rw [if_pos rfl] at hf
        have HF := Lib.hid hf
        clear hf
        go_wp2_with (go_at_call 53; refine hc.mono ?_; rintro e w1 ⟨rfl, hb⟩)
        all_goals go_ret2
        all_goals exact ⟨by rw [HF.out]; rfl, hbel.trans (hb.mono hz)⟩
      · rw [if_neg hm] at hf
        have hmz : ((m : Int) == 0) = false := by simp; omega
        have hchar := text_IsChar (r : Int)
        rcases hb0 : isCharB r with _ | _
        · rw [hb0, if_neg (by simp)] at hf
          rw [hb0] at hchar
          have HF := Lib.hid hf
          clear hf hb0
          go_wp2_with (first | (go_at_call 53; refine hc.mono ?_; rintro e w1 ⟨rfl, hb⟩) | (go_at_call 55; refine (hchar _).mono ?_; rintro e w' ⟨rfl, rfl⟩))
          all_goals go_ret2
          all_goals exact ⟨by rw [HF.out]; rfl, hbel.trans (hb.mono hz)⟩
        · rw [hb0, if_pos rfl] at hf
          rw [hb0] at hchar
          have HF := Lib.hid hf
          clear hf hb0
          go_wp2_with (first | (go_at_call 53; refine hc.mono ?_; rintro e w1 ⟨rfl, hb⟩) | (go_at_call 55; refine (hchar _).mono ?_; rintro e w' ⟨rfl, rfl⟩))
          go_roundw
          case rel => exact ⟨k + m, by omega, by go_num, HF.out, hbel.trans (hb.mono hz)⟩
          case measure => simp [RowKit.intOf]; omega
    · obtain rfl : k = s.size := by omega
      rw [chkAt_end s _ (Nat.le_refl _)] at hf
      have HF := Lib.hid hf
      clear hf
      go_wp2
      all_goals go_ret2
      all_goals exact ⟨by rw [HF.out]; rfl, hbel⟩
end Go.Proofs.YtppmoeidgefkpaaDoor
end
