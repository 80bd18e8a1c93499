/- Packed from the texts TextH TextV MeV. -/
import Derived.Test.YtggfblodjanfkaaDoorVkB
import Derived.Test.YtggfblodjanfkaaDoorVkI
import Derived.Shelf.Unicode.DecodeSlow
section
namespace Go.Proofs.YtggfblodjanfkaaDoor
open Go.RowKit Go.Lib
def validB (s : ByteArray) : Bool := decide ((chk s).2 = 0) && (collapse s.data.toList == s.data.toList)
theorem eq_bytes (l : List UInt8) (s : ByteArray) : ((ofBytes l).toList == s.toList) = (l == s.data.toList) := by
  rw [Lib.toList_data, Lib.toList_data, ofBytes_list]
end Go.Proofs.YtggfblodjanfkaaDoor
end
section
namespace Go.Proofs.YtggfblodjanfkaaDoor
open Go.RowKit Go.Lib
def NmRel (s : ByteArray) (k : Nat) : Prop := k = 0 ∨ isNameB s = nameAt s k
theorem NmRel.start {s : ByteArray} {r m : Nat} (hk : 0 < s.size) (hd : decP s 0 = (r, m)) (hs : nameStartB r = false) : isNameB s = false := by
  rw [isNameB_pos s hk, hd]; simp only; rw [hs]; rfl
theorem NmRel.next {s : ByteArray} {k r m : Nat} (h : NmRel s k) (hk : k < s.size) (hd : decP s k = (r, m)) (hc : nameCharB r = true) (hs : k = 0 → nameStartB r = true) : NmRel s (k + m) := by
  right
  rcases h with rfl | h
  · rw [isNameB_pos s hk, hd]; simp only; rw [hs rfl, if_pos rfl, Nat.zero_add]
  · rw [h, nameAt_eq s k hk, hd]; simp only; rw [hc, if_pos rfl]
theorem NmRel.done {s : ByteArray} {k : Nat} (h : NmRel s k) (hk : k = s.size) : isNameB s = decide (0 < k) := by
  rcases Nat.eq_zero_or_pos k with h0 | h0
  · rw [isNameB_empty s (by omega)]; simp [h0]
  · rcases h with rfl | h
    · omega
    · rw [h, nameAt_end s k (by omega)]; simp [h0]
end Go.Proofs.YtggfblodjanfkaaDoor
end
section
namespace Go.Proofs.YtggfblodjanfkaaDoor
open Go.RowKit Go.Lib
set_option maxHeartbeats 1000000 in
theorem mt_Check (s : ByteArray) (w : World) (hs : s.size ≤ maxLen) (hT : HasUtf8 w) :
    Calls Tryd.prog 83 #[.string s] w fun e w' => e = .returned (.tuple #[.int .i64 (chk s).1, .int .i64 (chk s).2]) ∧ Below w.heap.size w w' := by
  have hs' := hs
  unfold maxLen at hs
  go_enter Tryd.func83, Tryd.ntmps83
  go_wp2
  go_loopw [4] (fun i wr => ∃ k : Nat, k ≤ s.size ∧ i = .int .i64 k ∧ chk s = chkAt s k ∧ Below w.heap.size w wr) (fun i _ => s.size - (RowKit.intOf i).toNat)
  case atStart => exact ⟨0, Nat.zero_le _, rfl, rfl, Below.refl _ _⟩
  case round =>
    obtain ⟨k, hk, rfl, hf, hbel⟩ := hrel
    have hz := hbel.size
    by_cases hlt : k < s.size
    · have hc := text_Decode s k wr hs' (Utf8Tabs_below hT hbel)
      have hok := decP_ok s k hlt
      rw [decI_at s k hlt] at hc
      rw [chkAt_eq s k hlt] at hf
      generalize decP s k = d at hc hf hok
      obtain ⟨r, m⟩ := d
      simp only at hc hf hok
      by_cases hm : m = 0
      · subst hm
        rw [if_pos rfl] at hf
        have HF := Lib.hid hf
        clear hf
        go_wp2_with (go_at_call 93; refine hc.mono ?_; rintro e w1 ⟨rfl, hb⟩)
        all_goals go_ret2
        all_goals exact ⟨by rw [HF.out]; rfl, hbel.trans (hb.mono hz)⟩
      · rw [if_neg hm] at hf
        have hmz : ((m : Int) == 0) = false := by simp; omega
        have hchar := text_IsChar (r : Int)
        rcases hb0 : isCharB r with _ | _
        · rw [hb0, if_neg (by simp)] at hf
          rw [hb0] at hchar
          have HF := Lib.hid hf
          clear hf hb0
          go_wp2_with (first | (go_at_call 93; refine hc.mono ?_; rintro e w1 ⟨rfl, hb⟩) | (go_at_call 94; refine (hchar _).mono ?_; rintro e w' ⟨rfl, rfl⟩))
          all_goals go_ret2
          all_goals exact ⟨by rw [HF.out]; rfl, hbel.trans (hb.mono hz)⟩
        · rw [hb0, if_pos rfl] at hf
          rw [hb0] at hchar
          have HF := Lib.hid hf
          clear hf hb0
          go_wp2_with (first | (go_at_call 93; refine hc.mono ?_; rintro e w1 ⟨rfl, hb⟩) | (go_at_call 94; refine (hchar _).mono ?_; rintro e w' ⟨rfl, rfl⟩))
          go_roundw
          case rel => exact ⟨k + m, by omega, by go_num, HF.out, hbel.trans (hb.mono hz)⟩
          case measure => simp [RowKit.intOf]; omega
    · obtain rfl : k = s.size := by omega
      rw [chkAt_end s _ (Nat.le_refl _)] at hf
      have HF := Lib.hid hf
      clear hf
      go_wp2
      all_goals go_ret2
      all_goals exact ⟨by rw [HF.out]; rfl, hbel⟩
set_option maxHeartbeats 1000000 in
theorem mt_Valid (s : ByteArray) (w : World) (hs : s.size ≤ 70368744177664) (hT : HasUtf8 w) :
    Calls Tryd.prog 72 #[.string s] w fun e w' => e = .returned (.bool (validB s)) ∧ Below w.heap.size w w' := by
  have hc := mt_Check s w (by unfold maxLen; omega) hT
  have hk : ∀ wx, _ := fun wx => text_Collapse s wx hs
  unfold validB
  generalize chk s = d at hc ⊢
  have he := eq_bytes (collapse s.data.toList) s
  generalize ofBytes (collapse s.data.toList) = t at hk he
  have HE := Lib.hid he
  clear he
  obtain ⟨a, b⟩ := d
  simp only at hc ⊢
  by_cases hb0 : b = 0
  · subst hb0
    go_enter Tryd.func72, Tryd.ntmps72
    go_wp2_with (first | (go_at_call 83; refine hc.mono ?_; rintro e w1 ⟨rfl, hb⟩) | (go_at_call 84; refine (hk _).mono ?_; rintro e w2 ⟨rfl, hb2⟩))
    go_ret
    exact ⟨retb (by rw [HE.out]; simp), hb.trans (hb2.mono hb.size)⟩
  · have hbz : ((b : Int) == 0) = false := by simp; omega
    go_enter Tryd.func72, Tryd.ntmps72
    go_wp2_with (first | (go_at_call 83; refine hc.mono ?_; rintro e w1 ⟨rfl, hb⟩))
    go_ret
    exact ⟨retb (by simp [hb0]), hb⟩
end Go.Proofs.YtggfblodjanfkaaDoor
end
