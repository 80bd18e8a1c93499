/- The walks of two laws of layer 6: the comparison with the reference; offsets. -/
import Derived.Test.YtpphpnkijokffaaGreatDoorTokV
import Derived.Test.YtpphpnkijokffaaGreatDoorTokS
namespace Go.Proofs.YtpphpnkijokffaaGreatDoor
open Go.RowKit

/-! ### sizes -/
theorem startGo_len (s : ByteArray) (i : Nat) (N : List UInt8) : ∀ f a acc, s.size - a < f → a ≤ s.size → acc.length ≤ a → (startGo s i N f a acc).al.length ≤ s.size
  | 0, a, acc, hf, _, _ => absurd hf (by omega)
  | f + 1, a, acc, hf, ha, hl => by
    have hsl : s.data.toList.length = s.size := by simp
    rw [startGo]
    have hk := spP_le s.data.toList a (by omega)
    rw [hsl] at hk
    generalize spP s.data.toList a = m at *
    split
    · simp only; omega
    · split
      · simp only; omega
      · split
        · simp only; omega
        · split
          · simp only; omega
          · split
            · simp only; omega
            · rename_i h5
              obtain ⟨z, hz, hz1, hz2⟩ := attrP_ok s i m (by omega) (by simpa using h5)
              split
              · simp only; omega
              · rw [hz, Int.toNat_natCast]
                exact startGo_len s i N f z _ (by omega) hz2 (by rw [List.length_append, List.length_singleton]; omega)
theorem consP_len (s : ByteArray) (i : Nat) : (consP s i).1.al.length ≤ s.size := by
  have hsl : s.data.toList.length = s.size := by simp
  unfold consP
  split
  · exact Nat.zero_le _
  · split
    · exact Nat.zero_le _
    · split
      · unfold cdataP
        split <;> exact Nat.zero_le _
      · split
        · exact Nat.zero_le _
        · split
          · exact Nat.zero_le _
          · split
            · exact Nat.zero_le _
            · split
              · rename_i h7
                have hl := hasP_len h7 (by decide)
                rw [hsl] at hl
                simp only
                unfold startP
                have hb := nmP_le s (i + 1) hl
                split
                · exact Nat.zero_le _
                · exact startGo_len s i _ _ _ _ (by omega) hb.2 (Nat.zero_le _)
              · exact Nat.zero_le _
def Small (n : Nat) (l : List TokD) : Prop := l.length ≤ n ∧ ∀ t ∈ l, t.al.length ≤ n
theorem tokGo_small (s : ByteArray) : ∀ f a acc, s.size - a < f → a ≤ s.size → acc.length ≤ a → (∀ t ∈ acc, t.al.length ≤ s.size) → Small s.size (tokGo s f a acc).1
  | 0, a, acc, hf, _, _, _ => absurd hf (by omega)
  | f + 1, a, acc, hf, ha, hl, ht => by
    rw [tokGo]
    split
    · rename_i h1
      split
      · exact ⟨Nat.zero_le _, fun t h => by cases h⟩
      · rename_i h2
        have h0 : (consP s a).2.2 = 0 := by simpa using h2
        obtain ⟨z, hz, hz1, hz2⟩ := consP_ok s a h1 h0
        rw [hz, Int.toNat_natCast]
        refine tokGo_small s f z _ (by omega) hz2 ?_ ?_
        · split
          · rw [List.length_append, List.length_singleton]; omega
          · omega
        · split
          · intro t h
            rcases List.mem_append.1 h with h | h
            · exact ht t h
            · rw [List.mem_singleton.1 h]; exact consP_len s a
          · exact ht
    · exact ⟨by simp only; omega, ht⟩
theorem toksP_small (s : ByteArray) : Small s.size (toksP s).1 := by
  have hsl : s.data.toList.length = s.size := by simp
  unfold toksP
  split
  · exact ⟨Nat.zero_le _, fun t h => by cases h⟩
  · refine tokGo_small s _ _ _ (by split <;> omega) ?_ (Nat.zero_le _) (fun t h => by cases h)
    split
    · rename_i h
      have := hasP_len (i := 0) h (by decide)
      rw [hsl] at this
      simpa using this
    · omega

set_option maxRecDepth 100000 in
set_option maxHeartbeats 8000000 in
theorem walk_TokMatches (s : ByteArray) (w : World) (hT : TokT w) : Calls Tryz.prog 3 #[.string s] w fun e w' => e = .returned (.bool true) ∧ Below w.heap.size w w' := by
  have cA : ∀ wx, TokT wx → _ := fun wx ht => tok_alive wx ht
  by_cases hs : s.size ≤ 3000
  · have hsz : (s.size : Int) ≤ 3000 := by omega
    have c1 : ∀ wx, TokT wx → _ := fun wx ht => tok_Tokens s wx (by omega) ht
    have c2 : ∀ wx, _ := fun wx => tref_Tokens s wx (by omega)
    have hsm := toksP_small s
    generalize toksP s = R at *
    obtain ⟨l, x1, x2⟩ := R
    simp only at hsm
    go_enter Tryz.func3, Tryz.ntmps3
    go_wp2_with fail
    refine (c1 _ hT).mono ?_
    rintro e w1 ⟨p, c, rfl, hp, b1⟩
    have t1 := TokT_below hT b1
    go_wp2_with fail
    refine (c2 _).mono ?_
    rintro e w2 ⟨v, ps, rfl, hps, hrow, b2⟩
    obtain ⟨q, c', rfl⟩ := own_form hrow.1
    obtain ⟨hlen, hq⟩ := tokens_of_row hrow
    rw [hps] at hq
    have hpl : ps.length = l.length := by have h := congrArg List.length hps; rwa [List.length_map] at h
    rw [hpl]
    have t2 := TokT_below t1 b2
    go_wp2_with fail
    refine (cA _ t2).mono ?_
    rintro e w3 ⟨rfl, b3⟩
    have hp3 := (hp.below b2).below b3
    have hq3 := hq.below b3
    have cS : ∀ wx, wx = w3 → _ := fun wx hx => lref_same p q l c c' w3 hp3 hq3 (by have := hsm.1; omega) (fun t ht => by have := hsm.2 t ht; omega)
    clear hps hrow hlen hpl hp hq hp3 hq3 hsm c1 c2
    go_wp2_with fail
    refine (cS _ rfl).mono ?_
    rintro e w4 ⟨rfl, b4⟩
    go_wp2
    go_ret
    have s1 := b1.size; have s2 := b2.size; have s3 := b3.size
    exact ⟨by simp, ((b1.trans (b2.mono s1)).trans (b3.mono (by omega))).trans (b4.mono (by omega))⟩
  · have hsz : ¬ (s.size : Int) ≤ 3000 := by omega
    go_enter Tryz.func3, Tryz.ntmps3
    go_wp2_with fail
    refine (cA _ hT).mono ?_
    rintro e w1 ⟨rfl, b1⟩
    go_wp2
    go_ret
    exact ⟨rfl, b1⟩
theorem Rises_drop (n : Nat) : ∀ (l : List TokD) (i : Nat) (lo : Int) (h : i < l.length), Rises lo n (l.drop i) → lo < l[i].at' ∧ l[i].at' < (n : Int) ∧ Rises l[i].at' n (l.drop (i + 1))
  | l, i, lo, h, hr => by
    rw [List.drop_eq_getElem_cons h] at hr
    exact hr
end Go.Proofs.YtpphpnkijokffaaGreatDoor
