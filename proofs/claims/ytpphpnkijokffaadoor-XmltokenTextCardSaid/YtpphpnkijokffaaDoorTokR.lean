/- The walks of two laws of layer 6: the comparison with the reference; offsets. -/
import Derived.Test.YtpphpnkijokffaaDoorTokV
import Derived.Test.YtpphpnkijokffaaDoorTokS
namespace Go.Proofs.YtpphpnkijokffaaDoor
open Go.RowKit

/-! ### sizes -/
theorem startGo_len (s : ByteArray) (i : Nat) (N : List UInt8) : ∀ f a acc, s.size - a < f → a ≤ s.size → acc.length ≤ a → (startGo s i N f a acc).al.length ≤ s.size
  | 0, a, acc, hf, _, _ => absurd hf (by omega)
  | f + 1, a, acc, hf, ha, hl => by
    have hsl : s.data.toList.length = s.size := by simp
    rw [startGo]
    have hk := spP_le s.data.toList a (by omega)
    rw [hsl] at hk
    generalize spP s.data.toList a = m at *
    split
    · simp only; omega
    · split
      · simp only; omega
      · split
        · simp only; omega
        · split
          · simp only; omega
          · split
            · simp only; omega
            · rename_i h5
              obtain ⟨z, hz, hz1, hz2⟩ := attrP_ok s i m (by omega) (by simpa using h5)
              split
              · simp only; omega
              · rw [hz, Int.toNat_natCast]
                exact startGo_len s i N f z _ (by omega) hz2 (by rw [List.length_append, List.length_singleton]; omega)
theorem consP_len (s : ByteArray) (i : Nat) : (consP s i).1.al.length ≤ s.size := by
  have hsl : s.data.toList.length = s.size := by simp
  unfold consP
  split
  · exact Nat.zero_le _
  · split
    · exact Nat.zero_le _
    · split
      · unfold cdataP
        split <;> exact Nat.zero_le _
      · split
        · exact Nat.zero_le _
        · split
          · exact Nat.zero_le _
          · split
            · exact Nat.zero_le _
            · split
              · rename_i h7
                have hl := hasP_len h7 (by decide)
                rw [hsl] at hl
                simp only
                unfold startP
                have hb := nmP_le s (i + 1) hl
                split
                · exact Nat.zero_le _
                · exact startGo_len s i _ _ _ _ (by omega) hb.2 (Nat.zero_le _)
              · exact Nat.zero_le _
def Small (n : Nat) (l : List TokD) : Prop := l.length ≤ n ∧ ∀ t ∈ l, t.al.length ≤ n
theorem tokGo_small (s : ByteArray) : ∀ f a acc, s.size - a < f → a ≤ s.size → acc.length ≤ a → (∀ t ∈ acc, t.al.length ≤ s.size) → Small s.size (tokGo s f a acc).1
  | 0, a, acc, hf, _, _, _ => absurd hf (by omega)
  | f + 1, a, acc, hf, ha, hl, ht => by
    rw [tokGo]
    split
    · rename_i h1
      split
      · exact ⟨Nat.zero_le _, fun t h => by cases h⟩
      · rename_i h2
        have h0 : (consP s a).2.2 = 0 := by simpa using h2
        obtain ⟨z, hz, hz1, hz2⟩ := consP_ok s a h1 h0
        rw [hz, Int.toNat_natCast]
        refine tokGo_small s f z _ (by omega) hz2 ?_ ?_
        · split
          · rw [List.length_append, List.length_singleton]; omega
          · omega
        · split
          · intro t h
            rcases List.mem_append.1 h with h | h
            · exact ht t h
            · rw [List.mem_singleton.1 h]; exact consP_len s a
          · exact ht
    · exact ⟨by simp only; omega, ht⟩
theorem toksP_small (s : ByteArray) : Small s.size (toksP s).1 := by
  have hsl : s.data.toList.length = s.size := by simp
  unfold toksP
  split
  · exact ⟨Nat.zero_le _, fun t h => by cases h⟩
  · refine tokGo_small s _ _ _ (by split <;> omega) ?_ (Nat.zero_le _) (fun t h => by cases h)
    split
    · rename_i h
      have := hasP_len (i := 0) h (by decide)
      rw [hsl] at this
      simpa using this
    · omega

theorem Rises_drop (n : Nat) : ∀ (l : List TokD) (i : Nat) (lo : Int) (h : i < l.length), Rises lo n (l.drop i) → lo < l[i].at' ∧ l[i].at' < (n : Int) ∧ Rises l[i].at' n (l.drop (i + 1))
  | l, i, lo, h, hr => by
    rw [List.drop_eq_getElem_cons h] at hr
    exact hr
set_option maxRecDepth 100000 in
set_option maxHeartbeats 8000000 in
theorem walk_TokOffsets (s : ByteArray) (w : World) (hT : TokT w) : Calls Tryd.prog 3 #[.string s] w fun e w' => e = .returned (.bool true) ∧ Below w.heap.size w w' := by
  have cA : ∀ wx, TokT wx → _ := fun wx ht => tok_alive wx ht
  by_cases hs : s.size ≤ 3000
  · have hsz : (s.size : Int) ≤ 3000 := by omega
    have c1 : ∀ wx, TokT wx → _ := fun wx ht => tok_Tokens s wx (by omega) ht
    have hok := toksP_ok s
    have hsm := (toksP_small s).1
    generalize toksP s = R at *
    obtain ⟨l, x1, x2⟩ := R
    obtain ⟨hr, ⟨hx0, hxn⟩, he0, he1⟩ := hok
    simp only at hr hx0 hxn he0 he1 hsm
    have HR := Lib.hid hr
    have HE0 := Lib.hid he0
    have HE1 := Lib.hid he1
    clear hr he0 he1
    go_enter Tryd.func3, Tryd.ntmps3
    go_wp2_with fail
    refine (c1 _ hT).mono ?_
    rintro e w1 ⟨p, c, rfl, hp, b1⟩
    have t1 := TokT_below hT b1
    go_wp2
    go_loopw [6, 21] (fun la q wr => ∃ (i : Nat) (lo : Int), i ≤ l.length ∧ q = .int .i64 i ∧ la = .int .i64 lo ∧ -1 ≤ lo ∧ Rises lo s.size (l.drop i) ∧ Below w1.heap.size w1 wr) (fun _ q _ => l.length - (intOf q).toNat)
    case atStart => exact ⟨0, -1, Nat.zero_le _, rfl, rfl, Int.le_refl _, HR.out, Below.refl _ _⟩
    case round =>
      obtain ⟨i, lo, hi, rfl, rfl, hlo, hri, hbel⟩ := hrel
      have hz := hbel.size
      by_cases hlt : i < l.length
      · have hiz : (i : Int) < (l.length : Int) := by omega
        obtain ⟨h1, h2, h3⟩ := Rises_drop s.size l i lo hlt hri
        obtain ⟨a, ax, ac, rfl, ⟨a0, a1, a2, a3, a4, a5⟩, hax⟩ := (hp.below hbel) i hlt
        obtain ⟨kd, nm, al, em, tx, at', ht⟩ : ∃ kd nm al em tx at', l[i] = ⟨kd, nm, al, em, tx, at'⟩ := ⟨_, _, _, _, _, _, rfl⟩
        rw [ht] at h1 h2 h3 a0 a1 a2 a3 a4 a5
        simp only at h1 h2 h3 a0 a1 a2 a3 a4 a5
        obtain ⟨ca, hca⟩ : ∃ c, a.add (i * 6) = c := ⟨_, rfl⟩
        rw [hca] at a0 a1 a2 a3 a4 a5
        simp only [Addr.add, Nat.reduceEqDiff, ↓reduceIte] at a1 a2 a3 a4 a5
        have h4 : ¬ at' ≤ lo := by omega
        have h5 : ¬ (s.size : Int) ≤ at' := by omega
        have H3 := Lib.hid h3
        clear hri h3 hp hax c1
        have hb3 : ∀ (o1 : Obj), Below w1.heap.size w1 (wr.alloc o1) := fun o1 => hbel.alloc hz _
        go_wp2
        go_roundw
        case rel => exact ⟨i + 1, at', by omega, by go_num, rfl, by omega, H3.out, hb3 _⟩
        case measure => simp [intOf]; omega
      · obtain rfl : i = l.length := by omega
        have t2 := TokT_below t1 hbel
        have s1 := b1.size
        by_cases hx : x2 = 0
        · have hxx := HE0.out hx
          subst hx
          go_wp2_with fail
          refine (cA _ t2).mono ?_
          rintro e w3 ⟨rfl, b3⟩
          go_wp2
          go_ret
          exact ⟨by simp, (b1.trans (hbel.mono s1)).trans (b3.mono (by omega))⟩
        · have hxx := HE1.out hx
          have hxb : (x2 != 0) = true := by simpa using hx
          have hxb2 : (x2 == 0) = false := by simpa using hx
          have hl0 : (l.length : Int) = 0 := by rw [hxx]; rfl
          go_wp2_with fail
          refine (cA _ t2).mono ?_
          rintro e w3 ⟨rfl, b3⟩
          go_wp2
          go_ret
          exact ⟨by simp, (b1.trans (hbel.mono s1)).trans (b3.mono (by omega))⟩
  · have hsz : ¬ (s.size : Int) ≤ 3000 := by omega
    go_enter Tryd.func3, Tryd.ntmps3
    go_wp2_with fail
    refine (cA _ hT).mono ?_
    rintro e w1 ⟨rfl, b1⟩
    go_wp2
    go_ret
    exact ⟨rfl, b1⟩
end Go.Proofs.YtpphpnkijokffaaDoor
