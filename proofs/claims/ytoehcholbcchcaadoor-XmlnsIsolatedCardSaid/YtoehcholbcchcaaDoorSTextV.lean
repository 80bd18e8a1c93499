/- Packed from the texts TextV. -/
import Derived.Test.YtoehcholbcchcaaDoorSChk
import Derived.Test.YtoehcholbcchcaaDoorSTextU
import Derived.Test.YtoehcholbcchcaaDoorSkF
section
namespace Go.Proofs.YtoehcholbcchcaaDoor
open Go.RowKit Go.Lib
theorem start_char (r : Int) (h : nameCharB r = false) : nameStartB r = false := by
  unfold nameCharB at h
  cases hs : nameStartB r
  · rfl
  · rw [hs] at h; simp at h
def NmRel (s : ByteArray) (k : Nat) : Prop := k = 0 ∨ isNameB s = nameAt s k
theorem NmRel.none {s : ByteArray} {k r m : Nat} (h : NmRel s k) (hk : k < s.size) (hd : decP s k = (r, m)) (hm : m = 0 ∨ nameCharB r = false) : isNameB s = false := by
  have hc : nameCharB r = false := by
    rcases hm with rfl | hm
    · have := (decP_ok s k hk).2.2.2 (by rw [hd])
      rw [hd] at this
      simp only at this
      subst this
      decide
    · exact hm
  rcases h with rfl | h
  · rw [isNameB_pos s hk, hd]; simp only; rw [start_char _ hc]; rfl
  · rw [h, nameAt_eq s k hk, hd]; simp only; rw [hc]; rfl
theorem NmRel.start {s : ByteArray} {r m : Nat} (hk : 0 < s.size) (hd : decP s 0 = (r, m)) (hs : nameStartB r = false) : isNameB s = false := by
  rw [isNameB_pos s hk, hd]; simp only; rw [hs]; rfl
theorem NmRel.next {s : ByteArray} {k r m : Nat} (h : NmRel s k) (hk : k < s.size) (hd : decP s k = (r, m)) (hc : nameCharB r = true) (hs : k = 0 → nameStartB r = true) : NmRel s (k + m) := by
  right
  rcases h with rfl | h
  · rw [isNameB_pos s hk, hd]; simp only; rw [hs rfl, if_pos rfl, Nat.zero_add]
  · rw [h, nameAt_eq s k hk, hd]; simp only; rw [hc, if_pos rfl]
theorem NmRel.done {s : ByteArray} {k : Nat} (h : NmRel s k) (hk : k = s.size) : isNameB s = decide (0 < k) := by
  rcases Nat.eq_zero_or_pos k with h0 | h0
  · rw [isNameB_empty s (by omega)]; simp [h0]
  · rcases h with rfl | h
    · omega
    · rw [h, nameAt_end s k (by omega)]; simp [h0]
set_option maxHeartbeats 2000000 in
theorem ref_IsName (s : ByteArray) (w : World) (hs : s.size ≤ maxLen) :
    Calls Tryd.prog 24 #[.string s] w fun e w' => e = .returned (.bool (isNameB s)) ∧ Below w.heap.size w w' := by
  have hs' := hs
  unfold maxLen at hs
  go_enter Tryd.func24, Tryd.ntmps24
  go_wp2
  go_loopw [3] (fun i wr => ∃ k : Nat, k ≤ s.size ∧ i = .int .i64 k ∧ NmRel s k ∧ Below w.heap.size w wr) (fun i _ => s.size - (RowKit.intOf i).toNat)
  case atStart => exact ⟨0, Nat.zero_le _, rfl, .inl rfl, Below.refl _ _⟩
  case round =>
    obtain ⟨k, hk, rfl, hf, hbel⟩ := hrel
    have hz := hbel.size
    by_cases hlt : k < s.size
    · have hc := ref_Decode s k wr hs'
      have hok := decP_ok s k hlt
      rw [decI_at s k hlt] at hc
      obtain ⟨r, m, hd⟩ : ∃ r m, decP s k = (r, m) := ⟨_, _, rfl⟩
      rw [hd] at hc hok
      simp only at hc hok
      by_cases hm : m = 0
      · have HF := Lib.hid (hf.none hlt hd (.inl hm))
        subst hm
        clear hf hd
        go_wp2_with (go_at_call 43; refine hc.mono ?_; rintro e w1 ⟨rfl, hb⟩)
        all_goals go_ret
        all_goals exact ⟨retb HF.out.symm, hbel.trans (hb.mono hz)⟩
      · have hmz : ((m : Int) == 0) = false := by simp; omega
        have hchar := ref_IsNameChar (r : Int)
        rcases hb0 : nameCharB r with _ | _
        · have HF := Lib.hid (hf.none hlt hd (.inr hb0))
          rw [hb0] at hchar
          clear hf hd hb0
          go_wp2_with (first | (go_at_call 43; refine hc.mono ?_; rintro e w1 ⟨rfl, hb⟩) | (go_at_call 44; refine (hchar _).mono ?_; rintro e w' ⟨rfl, rfl⟩))
          all_goals go_ret
          all_goals exact ⟨retb HF.out.symm, hbel.trans (hb.mono hz)⟩
        · have hst := ref_IsNameStart (r : Int)
          rcases Nat.eq_zero_or_pos k with rfl | hk0
          · rcases hs0 : nameStartB r with _ | _
            · have HF := Lib.hid (NmRel.start hlt hd hs0)
              rw [hb0] at hchar
              rw [hs0] at hst
              clear hf hd hb0 hs0
              go_wp2_with (first | (go_at_call 43; refine hc.mono ?_; rintro e w1 ⟨rfl, hb⟩) | (go_at_call 44; refine (hchar _).mono ?_; rintro e w' ⟨rfl, rfl⟩) | (go_at_call 45; refine (hst _).mono ?_; rintro e w' ⟨rfl, rfl⟩))
              all_goals go_ret
              all_goals exact ⟨retb HF.out.symm, hbel.trans (hb.mono hz)⟩
            · have HF := hf.next hlt hd hb0 (fun _ => hs0)
              rw [hb0] at hchar
              rw [hs0] at hst
              clear hf hd hb0 hs0
              go_wp2_with (first | (go_at_call 43; refine hc.mono ?_; rintro e w1 ⟨rfl, hb⟩) | (go_at_call 44; refine (hchar _).mono ?_; rintro e w' ⟨rfl, rfl⟩) | (go_at_call 45; refine (hst _).mono ?_; rintro e w' ⟨rfl, rfl⟩))
              go_roundw
              case rel => exact ⟨0 + m, by omega, by go_num, HF, hbel.trans (hb.mono hz)⟩
              case measure => first | (simp [RowKit.intOf]; done) | (simp [RowKit.intOf]; omega)
          · have HF := hf.next hlt hd hb0 (fun e => by omega)
            have hkz : ((k : Int) == 0) = false := by simp; omega
            rw [hb0] at hchar
            clear hf hd hb0 hst
            go_wp2_with (first | (go_at_call 43; refine hc.mono ?_; rintro e w1 ⟨rfl, hb⟩) | (go_at_call 44; refine (hchar _).mono ?_; rintro e w' ⟨rfl, rfl⟩))
            go_roundw
            case rel => exact ⟨k + m, by omega, by go_num, HF, hbel.trans (hb.mono hz)⟩
            case measure => simp [RowKit.intOf]; omega
    · obtain rfl : k = s.size := by omega
      have HF := Lib.hid (hf.done rfl)
      clear hf
      go_wp2
      all_goals go_ret
      all_goals exact ⟨retb (by rw [HF.out]), hbel⟩
end Go.Proofs.YtoehcholbcchcaaDoor
end
