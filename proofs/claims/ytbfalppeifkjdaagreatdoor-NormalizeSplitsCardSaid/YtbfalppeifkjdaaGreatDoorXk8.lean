/- Packed from the texts TextH TextV MeV. -/
import Derived.Test.YtbfalppeifkjdaaGreatDoorXkA
import Derived.Test.YtbfalppeifkjdaaGreatDoorXkB
import Derived.Shelf.Unicode.DecodeSlow
section
namespace Go.Proofs.YtbfalppeifkjdaaGreatDoor
open Go.RowKit Go.Lib
def validB (s : ByteArray) : Bool := decide ((chk s).2 = 0) && (collapse s.data.toList == s.data.toList)
end Go.Proofs.YtbfalppeifkjdaaGreatDoor
end
section
namespace Go.Proofs.YtbfalppeifkjdaaGreatDoor
open Go.RowKit Go.Lib
def NmRel (s : ByteArray) (k : Nat) : Prop := k = 0 ∨ isNameB s = nameAt s k
theorem NmRel.start {s : ByteArray} {r m : Nat} (hk : 0 < s.size) (hd : decP s 0 = (r, m)) (hs : nameStartB r = false) : isNameB s = false := by
  rw [isNameB_pos s hk, hd]; simp only; rw [hs]; rfl
theorem NmRel.done {s : ByteArray} {k : Nat} (h : NmRel s k) (hk : k = s.size) : isNameB s = decide (0 < k) := by
  rcases Nat.eq_zero_or_pos k with h0 | h0
  · rw [isNameB_empty s (by omega)]; simp [h0]
  · rcases h with rfl | h
    · omega
    · rw [h, nameAt_end s k (by omega)]; simp [h0]
end Go.Proofs.YtbfalppeifkjdaaGreatDoor
end
section
namespace Go.Proofs.YtbfalppeifkjdaaGreatDoor
open Go.RowKit Go.Lib
set_option maxHeartbeats 1000000 in
theorem mt_Check (s : ByteArray) (w : World) (hs : s.size ≤ maxLen) (hT : HasUtf8 w) :
    Calls Tryz.prog 47 #[.string s] w fun e w' => e = .returned (.tuple #[.int .i64 (chk s).1, .int .i64 (chk s).2]) ∧ Below w.heap.size w w' := by
  have hs' := hs
  unfold maxLen at hs
  go_enter Tryz.func47, Tryz.ntmps47
  go_wp2
  go_loopw [4] (fun i wr => ∃ k : Nat, k ≤ s.size ∧ i = .int .i64 k ∧ chk s = chkAt s k ∧ Below w.heap.size w wr) (fun i _ => s.size - (RowKit.intOf i).toNat)
  case atStart => exact ⟨0, Nat.zero_le _, rfl, rfl, Below.refl _ _⟩
  case round =>
    obtain ⟨k, hk, rfl, hf, hbel⟩ := hrel
    have hz := hbel.size
    by_cases hlt : k < s.size
    · have hc := text_Decode s k wr hs' (Utf8Tabs_below hT hbel)
      have hok := decP_ok s k hlt
      rw [decI_at s k hlt] at hc
      rw [chkAt_eq s k hlt] at hf
      generalize decP s k = d at hc hf hok
      obtain ⟨r, m⟩ := d
      simp only at hc hf hok
      by_cases hm : m = 0
      · subst hm
        rw [if_pos rfl] at hf
        have HF := Lib.hid hf
        clear hf
        go_wp2_with (go_at_call 66; refine hc.mono ?_; rintro e w1 ⟨rfl, hb⟩)
        all_goals go_ret2
        all_goals exact ⟨by rw [HF.out]; rfl, hbel.trans (hb.mono hz)⟩
      · rw [if_neg hm] at hf
        have hmz : ((m : Int) == 0) = false := by simp; omega
        have hchar := text_IsChar (r : Int)
        rcases hb0 : isCharB r with _ | _
        · rw [hb0, if_neg (by simp)] at hf
          rw [hb0] at hchar
          have HF := Lib.hid hf
          clear hf hb0
          go_wp2_with (first | (go_at_call 66; refine hc.mono ?_; rintro e w1 ⟨rfl, hb⟩) | (go_at_call 67; refine (hchar _).mono ?_; rintro e w' ⟨rfl, rfl⟩))
          all_goals go_ret2
          all_goals exact ⟨by rw [HF.out]; rfl, hbel.trans (hb.mono hz)⟩
        · rw [hb0, if_pos rfl] at hf
          rw [hb0] at hchar
          have HF := Lib.hid hf
          clear hf hb0
          go_wp2_with (first | (go_at_call 66; refine hc.mono ?_; rintro e w1 ⟨rfl, hb⟩) | (go_at_call 67; refine (hchar _).mono ?_; rintro e w' ⟨rfl, rfl⟩))
          go_roundw
          case rel => exact ⟨k + m, by omega, by go_num, HF.out, hbel.trans (hb.mono hz)⟩
          case measure => simp [RowKit.intOf]; omega
    · obtain rfl : k = s.size := by omega
      rw [chkAt_end s _ (Nat.le_refl _)] at hf
      have HF := Lib.hid hf
      clear hf
      go_wp2
      all_goals go_ret2
      all_goals exact ⟨by rw [HF.out]; rfl, hbel⟩
end Go.Proofs.YtbfalppeifkjdaaGreatDoor
end
