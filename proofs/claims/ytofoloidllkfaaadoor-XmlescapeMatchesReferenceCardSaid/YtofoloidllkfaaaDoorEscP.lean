/- The walk of the law of layer 5 on numbers with leading zeros: the law. -/
import Derived.Test.YtofoloidllkfaaaDoorEscO
namespace Go.Proofs.YtofoloidllkfaaaDoor
open Go.RowKit

theorem numR_nonneg (base : Int) (hb : 0 ≤ base) : ∀ (l : List UInt8) (n : Int), 0 ≤ n → numR base l n = -1 ∨ 0 ≤ numR base l n
  | [], n, h => .inr h
  | c :: r, n, h => by
    have hd := digI_bd (c.toNat : Int)
    have hm : 0 ≤ n * base := Int.mul_nonneg h hb
    rw [numR]
    split
    · exact .inl rfl
    · exact numR_nonneg base hb r _ (by split <;> omega)
theorem numR_app (base : Int) : ∀ (a b : List UInt8) (n : Int), numR base a n ≠ -1 → numR base (a ++ b) n = numR base b (numR base a n)
  | [], b, n, _ => rfl
  | c :: r, b, n, h => by
    rw [numR] at h
    rw [List.cons_append, numR, numR]
    split
    · rename_i hc; rw [if_pos hc] at h; exact absurd rfl h
    · rename_i hc; rw [if_neg hc] at h; exact numR_app base r b _ h
theorem numR_zeros : ∀ c : Nat, numR 10 (Lib.repeatL [48] c) 0 = 0
  | 0 => rfl
  | c + 1 => by
    show numR 10 (48 :: Lib.repeatL [48] c) 0 = 0
    rw [numR, if_neg (by decide)]
    exact numR_zeros c
theorem digI_dec (d : Nat) (h : d < 10) : digI ((UInt8.ofNat (48 + d)).toNat : Int) = d := by
  rw [UInt8.toNat_ofNat']
  unfold digI
  rw [if_pos (by omega)]; omega
theorem numR_dec : ∀ (u : Nat), u ≤ 2000000 → numR 10 (Lib.decDigits u) 0 = u := by
  intro u
  induction u using Nat.strongRecOn with
  | ind u ih =>
    intro h
    rw [Lib.decDigits]
    by_cases h10 : u < 10
    · rw [dif_pos h10, numR, digI_dec u h10, if_neg (by omega), numR, if_neg (by omega)]; omega
    · have h1 := ih (u / 10) (by omega) (by omega)
      rw [dif_neg h10, numR_app _ _ _ _ (by rw [h1]; omega), h1, numR, digI_dec (u % 10) (by omega), if_neg (by omega), numR, if_neg (by omega)]; omega
theorem dec_dig : ∀ (u : Nat), (Lib.decDigits u).all (fun c => decide (48 ≤ c.toNat ∧ c.toNat ≤ 57)) = true := by
  intro u
  induction u using Nat.strongRecOn with
  | ind u ih =>
    rw [Lib.decDigits]
    by_cases h10 : u < 10
    · rw [dif_pos h10]; simp [UInt8.toNat_ofNat']; omega
    · rw [dif_neg h10, List.all_append, ih (u / 10) (by omega)]; simp [UInt8.toNat_ofNat']; omega
theorem zero_dig : ∀ c : Nat, (Lib.repeatL [48] c).all (fun c => decide (48 ≤ c.toNat ∧ c.toNat ≤ 57)) = true
  | 0 => rfl
  | c + 1 => by
    show (48 :: Lib.repeatL [48] c).all _ = true
    rw [List.all_cons, zero_dig c]; rfl
theorem dec_ne (u : Nat) : Lib.decDigits u ≠ [] := by
  rw [Lib.decDigits]
  split <;> simp
theorem dec_len : ∀ (j u : Nat), u < 10 ^ (j + 1) → (Lib.decDigits u).length ≤ j + 1
  | 0, u, h => by rw [Lib.decDigits, dif_pos (by simpa using h)]; simp
  | j + 1, u, h => by
    rw [Lib.decDigits]
    split
    · simp
    · rw [List.length_append]
      have := dec_len j (u / 10) (by rw [Nat.pow_succ] at h; omega)
      simp; omega
/-- The text between the ampersand and the semicolon. -/
def numT (c u : Nat) : List UInt8 := 35 :: (Lib.repeatL [48] c ++ Lib.decDigits u)
theorem numT_dig (c u : Nat) : (Lib.repeatL [48] c ++ Lib.decDigits u).all (fun c => decide (48 ≤ c.toNat ∧ c.toNat ≤ 57)) = true := by rw [List.all_append, zero_dig, dec_dig]; rfl
theorem numT_semi (c u : Nat) : ((numT c u).all fun c => c != 59) = true := by
  unfold numT
  rw [List.all_cons, Bool.and_eq_true]
  refine ⟨by decide, ?_⟩
  rw [List.all_eq_true]
  intro x hx
  have := List.all_eq_true.1 (numT_dig c u) x hx
  simp only [decide_eq_true_eq] at this
  have hne : x ≠ 59 := fun e => by rw [e] at this; exact absurd this.2 (by decide)
  simpa using hne
theorem numT_num (c u : Nat) (h : u ≤ 2000000) : refNum (numT c u) = u := by
  obtain ⟨d, r, hdr⟩ : ∃ d r, Lib.repeatL [48] c ++ Lib.decDigits u = d :: r := by
    cases hx : Lib.repeatL [48] c ++ Lib.decDigits u with
    | nil => exact absurd (List.append_eq_nil_iff.1 hx).2 (dec_ne u)
    | cons d r => exact ⟨d, r, rfl⟩
  have hd := numT_dig c u
  have hn : numB 10 (Lib.repeatL [48] c ++ Lib.decDigits u) = u := by
    unfold numB
    rw [if_neg (by rw [hdr]; simp), numR_app _ _ _ _ (by rw [numR_zeros]; decide), numR_zeros, numR_dec u h]
  unfold refNum numT
  rw [hdr] at hd hn ⊢
  rw [List.all_cons, Bool.and_eq_true, decide_eq_true_eq] at hd
  have h120 : d ≠ 120 := fun e => by rw [e] at hd; exact absurd hd.1.2 (by decide)
  rw [if_pos ⟨by simp, rfl⟩, if_neg (by simpa using h120)]
  exact hn
def numS (c u : Nat) : List UInt8 := 38 :: (numT c u ++ [59])
theorem numT_len (c u : Nat) (hc : c ≤ 20) (hu : u ≤ 2000000) : (numT c u).length ≤ 40 := by
  have h := dec_len 6 u (by omega)
  unfold numT
  rw [List.length_cons, List.length_append, Lib.repeatL_length]; simp; omega
theorem numS_ref (c u : Nat) (r : List UInt8) (hu : u ≤ 2000000) : refAt (numS c u ++ r) 0 = if isCharB (u : Int) then ((u : Int), ((numT c u).length : Int) + 2, 0) else (0, 0, 12) := by
  have h := refAt_ent [] (numT c u) r (numT_semi c u)
  rw [List.nil_append, List.length_nil, numT_num c u hu] at h
  rw [show numS c u ++ r = 38 :: (numT c u ++ 59 :: r) by simp [numS], h]
  split
  · rw [show ((0 + (numT c u).length + 2 : Nat) : Int) = ((numT c u).length : Int) + 2 by omega]
  · rfl
theorem numS_refP (c u : Nat) (hu : u ≤ 2000000) : refP (numS c u) 0 = if isCharB (u : Int) then ((u : Int), ((numT c u).length : Int) + 2, 0) else (0, 0, 12) := by
  have h := refP_at (numS c u) 0 (by simp [numS]) rfl
  rw [show ((0 : Nat) : Int) = 0 from rfl] at h
  have h2 := numS_ref c u [] hu
  rw [List.append_nil] at h2
  rw [h, h2]
theorem numS_un (c u : Nat) (hu : u ≤ 2000000) : unP (numS c u ++ [120]) = if isCharB (u : Int) then (eb u ++ [120], ((numT c u).length : Int) + 3, 0) else ([], 0, 12) := by
  have hl : (numS c u ++ [120]).length = (numT c u).length + 3 := by simp [numS]
  have h38 : (numS c u ++ [120]).getD 0 0 = 38 := rfl
  have hr := numS_ref c u [120] hu
  unfold unP
  rw [hl, unF, if_pos (by omega), if_pos h38, hr]
  by_cases hi : isCharB (u : Int) = true
  · rw [if_pos hi, if_pos rfl, if_pos hi]
    simp only
    rw [show (((numT c u).length : Int) + 2).toNat = (numT c u).length + 2 by omega, unF, if_pos (by omega)]
    have hg : (numS c u ++ [120]).getD ((numT c u).length + 2) 0 = 120 := by
      rw [List.getD_eq_getElem?_getD, List.getElem?_append_right (by simp [numS])]
      simp [numS]
    rw [if_neg (by rw [hg]; decide), hg, unF, if_neg (by omega), hl]
    simp
  · rw [if_neg hi, if_neg (by decide), if_neg hi]; rfl

set_option maxRecDepth 100000 in
set_option maxHeartbeats 8000000 in
theorem walk_EscNumbers (n z : Int) (w : World) (hn0 : 0 ≤ n) (hn1 : n ≤ 4294967295) (hz0 : 0 ≤ z) (hz1 : z ≤ 255) (hT : EscT w) :
    Calls Tryd.prog 8 #[.int .u32 n, .int .u8 z] w fun e w' => e = .returned (.bool true) ∧ Below w.heap.size w w' := by
  obtain ⟨u, hu⟩ : ∃ u : Nat, n % 1200000 = (u : Int) := ⟨(n % 1200000).toNat, by omega⟩
  obtain ⟨c, hc⟩ : ∃ c : Nat, z % 20 = (c : Int) := ⟨(z % 20).toNat, by omega⟩
  have hu2 : u ≤ 1200000 := by omega
  have hc2 : c ≤ 20 := by omega
  have c1 : ∀ wx, _ := fun wx => Tryd.strings_Repeat ⟨#[48]⟩ c wx (by omega) (by show 1 * c ≤ _; omega)
  rw [show (⟨(Lib.repeatL (⟨#[48]⟩ : ByteArray).data.toList c).toArray⟩ : ByteArray) = ofBytes (Lib.repeatL [48] c) from rfl] at c1
  have c2 : ∀ wx, _ := fun wx => esc_decimal u wx (by omega)
  have hstr : ⟨#[38, 35]⟩ ++ ofBytes (Lib.repeatL [48] c) ++ ofBytes (Lib.decDigits u) ++ ⟨#[59]⟩ = ofBytes (numS c u) := by
    apply estr_ext
    simp [ofBytes, numS, numT]
  have hlen := numT_len c u hc2 (by omega)
  have hsl : (ofBytes (numS c u)).size = (numT c u).length + 2 := by rw [ofBytes_size]; simp [numS]
  have hx : ofBytes (numS c u) ++ ⟨#[120]⟩ = ofBytes (numS c u ++ [120]) := by
    apply estr_ext
    simp [ofBytes]
  have hxl : (ofBytes (numS c u ++ [120])).size = (numT c u).length + 3 := by rw [ofBytes_size]; simp [numS]
  have c3 : ∀ wx, EscT wx → _ := fun wx => esc_Reference (ofBytes (numS c u)) 0 wx (by omega)
  have c4 : ∀ wx, EscT wx → _ := fun wx => esc_Unescape (ofBytes (numS c u ++ [120])) wx (by omega)
  rw [ofBytes_list, numS_refP c u (by omega)] at c3
  rw [ofBytes_list, numS_un c u (by omega)] at c4
  have c5 : ∀ wx, _ := fun wx => ref_IsChar (u : Int) wx
  have c6 : ∀ wx, _ := fun wx => ref_Encode (u : Int) wx
  rw [eb_str] at c6
  have hec : ofBytes (eb u) ++ ⟨#[120]⟩ = ofBytes (eb u ++ [120]) := by
    apply estr_ext
    simp [ofBytes]
  have hebl := eb_len u
  have z1 : (ofBytes (Lib.repeatL [48] c)).size ≤ 20 := by rw [ofBytes_size, Lib.repeatL_length]; simp; omega
  have z2 : (ofBytes (Lib.decDigits u)).size ≤ 7 := by rw [ofBytes_size]; exact dec_len 6 u (by omega)
  have z3 : (ofBytes (eb u)).size ≤ 4 := by rw [ofBytes_size]; exact hebl
  have hlI : ((numT c u).length : Int) ≤ 40 := by omega
  have hslI : ((ofBytes (numS c u)).size : Int) = ((numT c u).length : Int) + 2 := by omega
  generalize ((numT c u).length : Int) = len at *
  clear hlen hsl hxl hebl
  have x1 : (⟨#[38, 35]⟩ ++ ofBytes (Lib.repeatL [48] c)).size ≤ 22 := by rw [ByteArray.size_append]; have : (⟨#[38, 35]⟩ : ByteArray).size = 2 := rfl; omega
  have x2 : (⟨#[38, 35]⟩ ++ ofBytes (Lib.repeatL [48] c) ++ ofBytes (Lib.decDigits u)).size ≤ 29 := by rw [ByteArray.size_append]; omega
  generalize ofBytes (Lib.repeatL [48] c) = Z at *
  generalize ofBytes (Lib.decDigits u) = D at *
  obtain ⟨S, hS⟩ : ∃ S, S = ofBytes (numS c u) := ⟨_, rfl⟩
  obtain ⟨X, hX⟩ : ∃ X, X = ofBytes (numS c u ++ [120]) := ⟨_, rfl⟩
  obtain ⟨Q, hQ⟩ : ∃ Q, Q = ofBytes (eb u ++ [120]) := ⟨_, rfl⟩
  rw [← hS] at hstr hx c3 hslI
  rw [← hX] at hx c4
  rw [← hQ] at hec
  have HS := Lib.hid hstr
  have HX := Lib.hid hx
  have HE := Lib.hid hec
  clear hstr hx hec hS hX
  have hu3 : (u : Int) ≤ 1200000 := by omega
  rcases hic : isCharB (u : Int) with _ | _
  · rw [hic] at c3 c4 c5
    simp only [Bool.false_eq_true, if_false] at c3 c4
    rw [show ofBytes [] = ⟨#[]⟩ from rfl] at c4
    clear hQ hic
    go_enter Tryd.func8, Tryd.ntmps8
    go_wp2_with fail
    refine (c1 _).mono ?_
    rintro e w1 ⟨rfl, b1⟩
    go_wp2_with fail
    refine (c2 _).mono ?_
    rintro e w2 ⟨rfl, b2⟩
    have t2 := EscT_below (EscT_below hT b1) b2
    go_wp2_with fail
    rw [HS.out]
    refine (c3 _ t2).mono ?_
    rintro e w3 ⟨rfl, b3⟩
    have t3 := EscT_below t2 b3
    go_wp2_with fail
    rw [HX.out]
    refine (c4 _ t3).mono ?_
    rintro e w4 ⟨rfl, b4⟩
    have t4 := EscT_below t3 b4
    (go_wp2_with fail); (refine (c5 _).mono ?_); (rintro e w' ⟨rfl, rfl⟩)
    (go_wp2_with fail); (refine (esc_alive _ t4).mono ?_); (rintro e w5 ⟨rfl, b5⟩)
    go_wp2
    go_ret
    have s1 := b1.size; have s2 := b2.size; have s3 := b3.size; have s4 := b4.size
    exact ⟨by simp, (((b1.trans (b2.mono (by omega))).trans (b3.mono (by omega))).trans (b4.mono (by omega))).trans (b5.mono (by omega))⟩
  · rw [hic] at c3 c4 c5
    simp only [if_true] at c3 c4
    rw [← hQ] at c4
    clear hQ hic
    go_enter Tryd.func8, Tryd.ntmps8
    go_wp2_with fail
    refine (c1 _).mono ?_
    rintro e w1 ⟨rfl, b1⟩
    go_wp2_with fail
    refine (c2 _).mono ?_
    rintro e w2 ⟨rfl, b2⟩
    have t2 := EscT_below (EscT_below hT b1) b2
    go_wp2_with fail
    rw [HS.out]
    refine (c3 _ t2).mono ?_
    rintro e w3 ⟨rfl, b3⟩
    have t3 := EscT_below t2 b3
    go_wp2_with fail
    rw [HX.out]
    refine (c4 _ t3).mono ?_
    rintro e w4 ⟨rfl, b4⟩
    have t4 := EscT_below t3 b4
    (go_wp2_with fail); (refine (c5 _).mono ?_); (rintro e w' ⟨rfl, rfl⟩)
    (go_wp2_with fail); (refine (esc_alive _ t4).mono ?_); (rintro e w5 ⟨rfl, b5⟩)
    go_wp2_with fail
    refine (c6 _).mono ?_
    rintro e w6 ⟨rfl, b6⟩
    have hE := HE.out
    go_wp2
    go_ret
    have s1 := b1.size; have s2 := b2.size; have s3 := b3.size; have s4 := b4.size; have s5 := b5.size
    exact ⟨by simp, ((((b1.trans (b2.mono (by omega))).trans (b3.mono (by omega))).trans (b4.mono (by omega))).trans (b5.mono (by omega))).trans (b6.mono (by omega))⟩
end Go.Proofs.YtofoloidllkfaaaDoor
