/- Packed from the texts TextF. -/
import Derived.Test.YtoehcholbcchcaaDoorUTextC
import Derived.Test.YtoehcholbcchcaaDoorUTextK
import Derived.Shelf.Unicode.DecodeSlow
section
namespace Go.Proofs.YtoehcholbcchcaaDoor
open Go.RowKit Go.Lib
def HasTabs (w : World) : Prop := HasUtf8 w ∧ HasSpans w
theorem HasTabs_below {w w' : World} (h : HasTabs w) (hb : Below w.heap.size w w') : HasTabs w' := ⟨Utf8Tabs_below h.1 hb, HasSpans_below h.2 hb⟩
set_option maxHeartbeats 2000000 in
theorem text_IsName (s : ByteArray) (w : World) (hs : s.size ≤ maxLen) (hT : HasTabs w) :
    Calls Tryd.prog 23 #[.string s] w fun e w' => e = .returned (.bool (isNameB s)) ∧ Below w.heap.size w w' := by
  have hs' := hs
  unfold maxLen at hs
  have hc := text_Decode s 0 w hs' hT.1
  have hnb : isNameB s = if nameStartB (decI s 0).1 then nameAt s (decI s 0).2 else false := rfl
  have hle : (decI s 0).2 ≤ s.size := by
    rw [decI_zero]; split
    · have := (decP_ok s 0 ‹_›).1; omega
    · simp
  generalize decI s 0 = d at hc hnb hle
  obtain ⟨r, m⟩ := d
  simp only at hc hnb hle
  have hst : ∀ wx, HasSpans wx → _ := text_IsNameStart (r : Int)
  rcases hb0 : nameStartB r with _ | _
  · rw [hb0, if_neg (by simp)] at hnb
    rw [hnb]
    rw [hb0] at hst
    clear hnb hb0
    go_enter Tryd.func23, Tryd.ntmps23
    go_wp2_with (first | (go_at_call 40; refine hc.mono ?_; rintro e w1 ⟨rfl, hb⟩) | (go_at_call 41; refine (hst _ (HasTabs_below hT hb).2).mono ?_; rintro e w2 ⟨rfl, hb2⟩))
    all_goals go_ret
    all_goals exact ⟨rfl, hb.trans (hb2.mono hb.size)⟩
  · rw [hb0, if_pos rfl] at hnb
    rw [hb0] at hst
    have HNB := Lib.hid hnb
    clear hnb hb0
    go_enter Tryd.func23, Tryd.ntmps23
    go_wp2_with (first | (go_at_call 40; refine hc.mono ?_; rintro e w1 ⟨rfl, hb⟩) | (go_at_call 41; refine (hst _ (HasTabs_below hT hb).2).mono ?_; rintro e w2 ⟨rfl, hb2⟩))
    have hbel2 : Below w.heap.size w w2 := hb.trans (hb2.mono hb.size)
    clear hc hst hb hb2
    go_loopw [4, 5] (fun n i wr => ∃ j k : Nat, k ≤ s.size ∧ n = .int .i64 j ∧ i = .int .i64 k ∧ nameAt s m = nameAt s k ∧ Below w.heap.size w wr) (fun _ i _ => s.size - (RowKit.intOf i).toNat)
    case atStart => exact ⟨m, m, hle, rfl, rfl, rfl, hbel2⟩
    case round =>
      obtain ⟨j, k, hk, rfl, rfl, hf, hbel⟩ := hrel
      have hz := hbel.size
      by_cases hlt : k < s.size
      · have hc := text_Decode s k wr hs' (HasTabs_below hT hbel).1
        have hok := decP_ok s k hlt
        have hpos := pos_of_name s k hlt
        rw [decI_at s k hlt] at hc
        rw [nameAt_eq s k hlt] at hf
        generalize decP s k = d at hc hf hok hpos
        obtain ⟨q, l⟩ := d
        simp only at hc hf hok hpos
        have hst : ∀ wx, HasSpans wx → _ := text_IsNameChar (q : Int)
        rcases hb0 : nameCharB q with _ | _
        · rw [hb0, if_neg (by simp)] at hf
          rw [hb0] at hst
          have HF := Lib.hid hf
          clear hf hb0 hpos
          go_wp2_with (first | (go_at_call 40; refine hc.mono ?_; rintro e w1 ⟨rfl, hb⟩) | (go_at_call 42; refine (hst _ (HasTabs_below hT (hbel.trans (hb.mono hz))).2).mono ?_; rintro e w2 ⟨rfl, hb2⟩))
          all_goals go_ret
          all_goals exact ⟨retb (by rw [HNB.out, HF.out]), hbel.trans ((hb.trans (hb2.mono hb.size)).mono hz)⟩
        · rw [hb0, if_pos rfl] at hf
          rw [hb0] at hst
          have hl := hpos hb0
          have HF := Lib.hid hf
          clear hf hb0 hpos
          go_wp2_with (first | (go_at_call 40; refine hc.mono ?_; rintro e w1 ⟨rfl, hb⟩) | (go_at_call 42; refine (hst _ (HasTabs_below hT (hbel.trans (hb.mono hz))).2).mono ?_; rintro e w2 ⟨rfl, hb2⟩))
          go_roundw
          case rel => exact ⟨l, k + l, by omega, rfl, by go_num, HF.out, hbel.trans ((hb.trans (hb2.mono hb.size)).mono hz)⟩
          case measure => simp [RowKit.intOf]; omega
      · obtain rfl : k = s.size := by omega
        rw [nameAt_end s _ (Nat.le_refl _)] at hf
        have HF := Lib.hid hf
        clear hf
        go_wp2
        all_goals go_ret
        all_goals exact ⟨retb (by rw [HNB.out, HF.out]), hbel⟩
end Go.Proofs.YtoehcholbcchcaaDoor
end
