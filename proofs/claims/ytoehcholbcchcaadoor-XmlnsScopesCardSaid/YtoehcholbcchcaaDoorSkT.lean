/- Packed from the texts NsY NsZ. -/
import Derived.Test.YtoehcholbcchcaaDoorSShelf
import Derived.Test.YtoehcholbcchcaaDoorSkK
section
namespace Go.Proofs.YtoehcholbcchcaaDoor
open Go.RowKit
def scB (k : Nat) : Nat → ByteArray
  | 0 => ⟨#[]⟩
  | i + 1 => if i = k then (scB k i ++ ⟨#[60, 97]⟩ ++ ⟨#[32, 120, 109, 108, 110, 115, 58, 112, 61, 39, 117, 39]⟩) ++ ⟨#[62, 60, 112, 58, 98, 47, 62]⟩ else (scB k i ++ ⟨#[60, 97]⟩) ++ ⟨#[62, 60, 112, 58, 98, 47, 62]⟩
theorem scB_size (k : Nat) : ∀ i, (scB k i).size ≤ i * 21
  | 0 => by rw [scB]; exact Nat.zero_le _
  | i + 1 => by
    have := scB_size k i
    rw [scB]
    split
    · rw [ByteArray.size_append, ByteArray.size_append, ByteArray.size_append]
      show (scB k i).size + 2 + 12 + 7 ≤ _
      omega
    · rw [ByteArray.size_append, ByteArray.size_append]
      show (scB k i).size + 2 + 7 ≤ _
      omega
def scD (k d : Nat) : ByteArray := scB k d ++ ⟨(Lib.repeatL [60, 47, 97, 62] d).toArray⟩
def scOk (k d : Nat) : Bool :=
  decide ((scD k d).size ≤ 3000) && decide ((parseP (scD k d)).2.2 = 0) &&
  (if k = 0 then decide ((resP [] (parseP (scD k d)).1).2.2 = 0) && (match (resP [] (parseP (scD k d)).1).1.kids with
    | [] => false
    | x :: _ => decide (x.sp = ⟨#[117]⟩) && decide (x.nm = ⟨#[98]⟩))
  else decide ((resP [] (parseP (scD k d)).1).2.2 = 13) && decide ((resP [] (parseP (scD k d)).1).2.1 = 3))
theorem sc_0_1 : scOk 0 1 = true := by kernel_rfl
theorem sc_1_1 : scOk 1 1 = true := by kernel_rfl
theorem sc_2_1 : scOk 2 1 = true := by kernel_rfl
theorem sc_3_1 : scOk 3 1 = true := by kernel_rfl
theorem sc_4_1 : scOk 4 1 = true := by kernel_rfl
theorem sc_5_1 : scOk 5 1 = true := by kernel_rfl
theorem sc_6_1 : scOk 6 1 = true := by kernel_rfl
theorem sc_7_1 : scOk 7 1 = true := by kernel_rfl
theorem sc_8_1 : scOk 8 1 = true := by kernel_rfl
theorem sc_9_1 : scOk 9 1 = true := by kernel_rfl
theorem scd_1 (k : Nat) (hk : k < 10) : scOk k 1 = true := by
  obtain rfl | rfl | rfl | rfl | rfl | rfl | rfl | rfl | rfl | rfl : k = 0 ∨ k = 1 ∨ k = 2 ∨ k = 3 ∨ k = 4 ∨ k = 5 ∨ k = 6 ∨ k = 7 ∨ k = 8 ∨ k = 9 := by omega
  · exact sc_0_1
  · exact sc_1_1
  · exact sc_2_1
  · exact sc_3_1
  · exact sc_4_1
  · exact sc_5_1
  · exact sc_6_1
  · exact sc_7_1
  · exact sc_8_1
  · exact sc_9_1
theorem sc_0_2 : scOk 0 2 = true := by kernel_rfl
theorem sc_1_2 : scOk 1 2 = true := by kernel_rfl
theorem sc_2_2 : scOk 2 2 = true := by kernel_rfl
theorem sc_3_2 : scOk 3 2 = true := by kernel_rfl
theorem sc_4_2 : scOk 4 2 = true := by kernel_rfl
theorem sc_5_2 : scOk 5 2 = true := by kernel_rfl
theorem sc_6_2 : scOk 6 2 = true := by kernel_rfl
theorem sc_7_2 : scOk 7 2 = true := by kernel_rfl
theorem sc_8_2 : scOk 8 2 = true := by kernel_rfl
theorem sc_9_2 : scOk 9 2 = true := by kernel_rfl
theorem scd_2 (k : Nat) (hk : k < 10) : scOk k 2 = true := by
  obtain rfl | rfl | rfl | rfl | rfl | rfl | rfl | rfl | rfl | rfl : k = 0 ∨ k = 1 ∨ k = 2 ∨ k = 3 ∨ k = 4 ∨ k = 5 ∨ k = 6 ∨ k = 7 ∨ k = 8 ∨ k = 9 := by omega
  · exact sc_0_2
  · exact sc_1_2
  · exact sc_2_2
  · exact sc_3_2
  · exact sc_4_2
  · exact sc_5_2
  · exact sc_6_2
  · exact sc_7_2
  · exact sc_8_2
  · exact sc_9_2
theorem sc_0_3 : scOk 0 3 = true := by kernel_rfl
theorem sc_1_3 : scOk 1 3 = true := by kernel_rfl
theorem sc_2_3 : scOk 2 3 = true := by kernel_rfl
theorem sc_3_3 : scOk 3 3 = true := by kernel_rfl
theorem sc_4_3 : scOk 4 3 = true := by kernel_rfl
theorem sc_5_3 : scOk 5 3 = true := by kernel_rfl
theorem sc_6_3 : scOk 6 3 = true := by kernel_rfl
theorem sc_7_3 : scOk 7 3 = true := by kernel_rfl
theorem sc_8_3 : scOk 8 3 = true := by kernel_rfl
theorem sc_9_3 : scOk 9 3 = true := by kernel_rfl
theorem scd_3 (k : Nat) (hk : k < 10) : scOk k 3 = true := by
  obtain rfl | rfl | rfl | rfl | rfl | rfl | rfl | rfl | rfl | rfl : k = 0 ∨ k = 1 ∨ k = 2 ∨ k = 3 ∨ k = 4 ∨ k = 5 ∨ k = 6 ∨ k = 7 ∨ k = 8 ∨ k = 9 := by omega
  · exact sc_0_3
  · exact sc_1_3
  · exact sc_2_3
  · exact sc_3_3
  · exact sc_4_3
  · exact sc_5_3
  · exact sc_6_3
  · exact sc_7_3
  · exact sc_8_3
  · exact sc_9_3
theorem sc_0_4 : scOk 0 4 = true := by kernel_rfl
theorem sc_1_4 : scOk 1 4 = true := by kernel_rfl
theorem sc_2_4 : scOk 2 4 = true := by kernel_rfl
theorem sc_3_4 : scOk 3 4 = true := by kernel_rfl
theorem sc_4_4 : scOk 4 4 = true := by kernel_rfl
theorem sc_5_4 : scOk 5 4 = true := by kernel_rfl
theorem sc_6_4 : scOk 6 4 = true := by kernel_rfl
theorem sc_7_4 : scOk 7 4 = true := by kernel_rfl
theorem sc_8_4 : scOk 8 4 = true := by kernel_rfl
theorem sc_9_4 : scOk 9 4 = true := by kernel_rfl
theorem scd_4 (k : Nat) (hk : k < 10) : scOk k 4 = true := by
  obtain rfl | rfl | rfl | rfl | rfl | rfl | rfl | rfl | rfl | rfl : k = 0 ∨ k = 1 ∨ k = 2 ∨ k = 3 ∨ k = 4 ∨ k = 5 ∨ k = 6 ∨ k = 7 ∨ k = 8 ∨ k = 9 := by omega
  · exact sc_0_4
  · exact sc_1_4
  · exact sc_2_4
  · exact sc_3_4
  · exact sc_4_4
  · exact sc_5_4
  · exact sc_6_4
  · exact sc_7_4
  · exact sc_8_4
  · exact sc_9_4
theorem sc_0_5 : scOk 0 5 = true := by kernel_rfl
theorem sc_1_5 : scOk 1 5 = true := by kernel_rfl
theorem sc_2_5 : scOk 2 5 = true := by kernel_rfl
theorem sc_3_5 : scOk 3 5 = true := by kernel_rfl
theorem sc_4_5 : scOk 4 5 = true := by kernel_rfl
theorem sc_5_5 : scOk 5 5 = true := by kernel_rfl
theorem sc_6_5 : scOk 6 5 = true := by kernel_rfl
theorem sc_7_5 : scOk 7 5 = true := by kernel_rfl
theorem sc_8_5 : scOk 8 5 = true := by kernel_rfl
theorem sc_9_5 : scOk 9 5 = true := by kernel_rfl
theorem scd_5 (k : Nat) (hk : k < 10) : scOk k 5 = true := by
  obtain rfl | rfl | rfl | rfl | rfl | rfl | rfl | rfl | rfl | rfl : k = 0 ∨ k = 1 ∨ k = 2 ∨ k = 3 ∨ k = 4 ∨ k = 5 ∨ k = 6 ∨ k = 7 ∨ k = 8 ∨ k = 9 := by omega
  · exact sc_0_5
  · exact sc_1_5
  · exact sc_2_5
  · exact sc_3_5
  · exact sc_4_5
  · exact sc_5_5
  · exact sc_6_5
  · exact sc_7_5
  · exact sc_8_5
  · exact sc_9_5
theorem sc_0_6 : scOk 0 6 = true := by kernel_rfl
theorem sc_1_6 : scOk 1 6 = true := by kernel_rfl
theorem sc_2_6 : scOk 2 6 = true := by kernel_rfl
theorem sc_3_6 : scOk 3 6 = true := by kernel_rfl
theorem sc_4_6 : scOk 4 6 = true := by kernel_rfl
theorem sc_5_6 : scOk 5 6 = true := by kernel_rfl
theorem sc_6_6 : scOk 6 6 = true := by kernel_rfl
theorem sc_7_6 : scOk 7 6 = true := by kernel_rfl
theorem sc_8_6 : scOk 8 6 = true := by kernel_rfl
theorem sc_9_6 : scOk 9 6 = true := by kernel_rfl
theorem scd_6 (k : Nat) (hk : k < 10) : scOk k 6 = true := by
  obtain rfl | rfl | rfl | rfl | rfl | rfl | rfl | rfl | rfl | rfl : k = 0 ∨ k = 1 ∨ k = 2 ∨ k = 3 ∨ k = 4 ∨ k = 5 ∨ k = 6 ∨ k = 7 ∨ k = 8 ∨ k = 9 := by omega
  · exact sc_0_6
  · exact sc_1_6
  · exact sc_2_6
  · exact sc_3_6
  · exact sc_4_6
  · exact sc_5_6
  · exact sc_6_6
  · exact sc_7_6
  · exact sc_8_6
  · exact sc_9_6
theorem sc_0_7 : scOk 0 7 = true := by kernel_rfl
theorem sc_1_7 : scOk 1 7 = true := by kernel_rfl
theorem sc_2_7 : scOk 2 7 = true := by kernel_rfl
theorem sc_3_7 : scOk 3 7 = true := by kernel_rfl
theorem sc_4_7 : scOk 4 7 = true := by kernel_rfl
theorem sc_5_7 : scOk 5 7 = true := by kernel_rfl
theorem sc_6_7 : scOk 6 7 = true := by kernel_rfl
theorem sc_7_7 : scOk 7 7 = true := by kernel_rfl
theorem sc_8_7 : scOk 8 7 = true := by kernel_rfl
theorem sc_9_7 : scOk 9 7 = true := by kernel_rfl
theorem scd_7 (k : Nat) (hk : k < 10) : scOk k 7 = true := by
  obtain rfl | rfl | rfl | rfl | rfl | rfl | rfl | rfl | rfl | rfl : k = 0 ∨ k = 1 ∨ k = 2 ∨ k = 3 ∨ k = 4 ∨ k = 5 ∨ k = 6 ∨ k = 7 ∨ k = 8 ∨ k = 9 := by omega
  · exact sc_0_7
  · exact sc_1_7
  · exact sc_2_7
  · exact sc_3_7
  · exact sc_4_7
  · exact sc_5_7
  · exact sc_6_7
  · exact sc_7_7
  · exact sc_8_7
  · exact sc_9_7
theorem sc_0_8 : scOk 0 8 = true := by kernel_rfl
theorem sc_1_8 : scOk 1 8 = true := by kernel_rfl
theorem sc_2_8 : scOk 2 8 = true := by kernel_rfl
theorem sc_3_8 : scOk 3 8 = true := by kernel_rfl
theorem sc_4_8 : scOk 4 8 = true := by kernel_rfl
theorem sc_5_8 : scOk 5 8 = true := by kernel_rfl
theorem sc_6_8 : scOk 6 8 = true := by kernel_rfl
theorem sc_7_8 : scOk 7 8 = true := by kernel_rfl
theorem sc_8_8 : scOk 8 8 = true := by kernel_rfl
theorem sc_9_8 : scOk 9 8 = true := by kernel_rfl
theorem scd_8 (k : Nat) (hk : k < 10) : scOk k 8 = true := by
  obtain rfl | rfl | rfl | rfl | rfl | rfl | rfl | rfl | rfl | rfl : k = 0 ∨ k = 1 ∨ k = 2 ∨ k = 3 ∨ k = 4 ∨ k = 5 ∨ k = 6 ∨ k = 7 ∨ k = 8 ∨ k = 9 := by omega
  · exact sc_0_8
  · exact sc_1_8
  · exact sc_2_8
  · exact sc_3_8
  · exact sc_4_8
  · exact sc_5_8
  · exact sc_6_8
  · exact sc_7_8
  · exact sc_8_8
  · exact sc_9_8
theorem sc_at (k d : Nat) (hk : k < 10) (hd : d < 8) : scOk k (d + 1) = true := by
  obtain rfl | rfl | rfl | rfl | rfl | rfl | rfl | rfl : d = 0 ∨ d = 1 ∨ d = 2 ∨ d = 3 ∨ d = 4 ∨ d = 5 ∨ d = 6 ∨ d = 7 := by omega
  · exact scd_1 k hk
  · exact scd_2 k hk
  · exact scd_3 k hk
  · exact scd_4 k hk
  · exact scd_5 k hk
  · exact scd_6 k hk
  · exact scd_7 k hk
  · exact scd_8 k hk
end Go.Proofs.YtoehcholbcchcaaDoor
end
section
namespace Go.Proofs.YtoehcholbcchcaaDoor
open Go.RowKit
theorem sc_facts (k d : Nat) (hk : k < 10) (hd : d < 8) : (scD k (d + 1)).size ≤ 3000 ∧ (parseP (scD k (d + 1))).2.2 = 0 ∧ (k = 0 → (resP [] (parseP (scD k (d + 1))).1).2.2 = 0 ∧ ∃ x r, (resP [] (parseP (scD k (d + 1))).1).1.kids = x :: r ∧ x.sp = ⟨#[117]⟩ ∧ x.nm = ⟨#[98]⟩) ∧ (k ≠ 0 → (resP [] (parseP (scD k (d + 1))).1).2.2 = 13 ∧ (resP [] (parseP (scD k (d + 1))).1).2.1 = 3) := by
  have h := sc_at k d hk hd
  unfold scOk at h
  rw [Bool.and_eq_true, Bool.and_eq_true, decide_eq_true_eq, decide_eq_true_eq] at h
  obtain ⟨⟨h1, h2⟩, h3⟩ := h
  refine ⟨h1, h2, fun hk0 => ?_, fun hk0 => ?_⟩
  · rw [if_pos hk0, Bool.and_eq_true, decide_eq_true_eq] at h3
    refine ⟨h3.1, ?_⟩
    have h4 := h3.2
    cases hkk : (resP [] (parseP (scD k (d + 1))).1).1.kids with
    | nil => rw [hkk] at h4; cases h4
    | cons x r =>
      rw [hkk, Bool.and_eq_true, decide_eq_true_eq, decide_eq_true_eq] at h4
      exact ⟨x, r, rfl, h4.1, h4.2⟩
  · rw [if_neg hk0, Bool.and_eq_true, decide_eq_true_eq, decide_eq_true_eq] at h3
    exact h3
set_option maxRecDepth 100000 in
set_option maxHeartbeats 8000000 in
theorem walk_NsScopes (a b : Int) (w : World) (ha0 : 0 ≤ a) (ha1 : a ≤ 255) (hb0 : 0 ≤ b) (hb1 : b ≤ 255) (hT : NsT w) : Calls Tryd.prog 5 #[.int .u8 a, .int .u8 b] w fun e w' => e = .returned (.bool true) ∧ Below w.heap.size w w' := by
  obtain ⟨d, hd⟩ : ∃ d : Nat, a % 8 = (d : Int) := ⟨(a % 8).toNat, by omega⟩
  obtain ⟨k, hk⟩ : ∃ k : Nat, b % 10 = (k : Int) := ⟨(b % 10).toNat, by omega⟩
  have hd8 : d < 8 := by omega
  have hk10 : k < 10 := by omega
  have cA : ∀ wx, NsT wx → _ := fun wx ht => la_alive wx ht
  have cC := fun wx => Tryd.strings_Repeat ⟨#[60, 47, 97, 62]⟩ (d + 1) wx (by omega) (by show 4 * (d + 1) ≤ _; omega)
  rw [show (⟨#[60, 47, 97, 62]⟩ : ByteArray).data.toList = [60, 47, 97, 62] from rfl, show ((d + 1 : Nat) : Int) = (d : Int) + 1 by omega] at cC
  obtain ⟨f1, f2, f3, f4⟩ := sc_facts k d hk10 hd8
  have F1 := Lib.hid f1
  have F2 := Lib.hid f2
  have F3 := Lib.hid f3
  have F4 := Lib.hid f4
  clear f1 f2 f3 f4
  go_enter Tryd.func5, Tryd.ntmps5
  go_wp2
  go_loopw [7, 27] (fun s q wr => ∃ i : Nat, i ≤ d + 1 ∧ q = .int .i64 i ∧ s = .string (scB k i) ∧ wr = w) (fun _ q _ => d + 1 - (intOf q).toNat)
  case atStart => exact ⟨0, Nat.zero_le _, rfl, rfl, rfl⟩
  case round =>
    obtain ⟨i, hi, rfl, rfl, rfl⟩ := hrel
    have hsz := scB_size k i
    by_cases hlt : i < d + 1
    · have hiz : (i : Int) < (d : Int) + 1 := by omega
      have hnx : scB k (i + 1) = if i = k then (scB k i ++ ⟨#[60, 97]⟩ ++ ⟨#[32, 120, 109, 108, 110, 115, 58, 112, 61, 39, 117, 39]⟩) ++ ⟨#[62, 60, 112, 58, 98, 47, 62]⟩ else (scB k i ++ ⟨#[60, 97]⟩) ++ ⟨#[62, 60, 112, 58, 98, 47, 62]⟩ := by rw [scB]
      obtain ⟨S, hS⟩ : ∃ S, scB k i = S := ⟨_, rfl⟩
      rw [hS] at hsz hnx ⊢
      have hs0 : ¬ 9223372036854775807 < S.size + 2 := by omega
      have hs1 : ¬ 9223372036854775807 < S.size + 2 + 12 := by omega
      have hs2 : ¬ 9223372036854775807 < S.size + 2 + 7 := by omega
      have hs3 : ¬ 9223372036854775807 < S.size + 2 + 12 + 7 := by omega
      by_cases hik : i = k
      · rw [if_pos hik] at hnx
        have hikb : ((i : Int) == (k : Int)) = true := by rw [hik]; simp
        have HN := Lib.hid hnx
        clear hnx hS hik
        go_wp2
        go_roundw
        case rel => exact ⟨i + 1, by omega, by go_num, by rw [HN.out], trivial⟩
        case measure => simp [intOf]; omega
      · rw [if_neg hik] at hnx
        have hikb : ((i : Int) == (k : Int)) = false := by simp; omega
        have HN := Lib.hid hnx
        clear hnx hS hik
        go_wp2
        go_roundw
        case rel => exact ⟨i + 1, by omega, by go_num, by rw [HN.out], trivial⟩
        case measure => simp [intOf]; omega
    · obtain rfl : i = d + 1 := by omega
      have hiz : ¬ (d : Int) + 1 < (d : Int) + 1 := by omega
      have hD : scB k (d + 1) ++ ⟨(Lib.repeatL [60, 47, 97, 62] (d + 1)).toArray⟩ = scD k (d + 1) := rfl
      have hrl : (⟨(Lib.repeatL [60, 47, 97, 62] (d + 1)).toArray⟩ : ByteArray).size ≤ 100 := by
        show (Lib.repeatL [60, 47, 97, 62] (d + 1)).toArray.size ≤ 100
        rw [List.size_toArray, Lib.repeatL_length]
        show (d + 1) * 4 ≤ 100
        omega
      generalize (⟨(Lib.repeatL [60, 47, 97, 62] (d + 1)).toArray⟩ : ByteArray) = RB at *
      generalize scB k (d + 1) = SB at *
      generalize scD k (d + 1) = DD at *
      have hs4 : ¬ 9223372036854775807 < SB.size + RB.size := by omega
      have hpr : prsP DD = ((parseP DD).1, 1) := by unfold prsP; rw [if_neg (by have := F1.out; omega), if_neg (by rw [F2.out]; decide)]
      have c1 : ∀ wx, _ := fun wx => la_parsed DD wx
      rw [hpr] at c1
      obtain ⟨o1, o2, o3, o4⟩ := doc_ok DD _ F1.out rfl
      have e1 : ∀ v wx, NodeIs wx (parseP DD).1 v → NsT wx → _ := fun v wx hn ht => ns_Resolve (parseP DD).1 v wx hn ht o1 o2 o3 o4
      generalize (parseP DD).1 = n at *
      obtain ⟨R, hR⟩ : ∃ R, resP [] n = R := ⟨_, rfl⟩
      have G3 := F3.out
      have G4 := F4.out
      rw [hR] at e1 G3 G4
      have H3 := Lib.hid G3
      have H4 := Lib.hid G4
      have HDD := Lib.hid hD
      clear G3 G4 F3 F4 F1 F2 hR hpr o1 o2 o3 o4 hrl hsz hD
      by_cases hk0 : k = 0
      · subst hk0
        obtain ⟨g1, x, r, hkk, g2, g3⟩ := H3.out rfl
        have hLn : 0 < R.1.kids.length := by rw [hkk]; simp
        have hL : (0 : Int) < (R.1.kids.length : Int) := by omega
        have hkx : R.1.kids[0]'hLn = x := by simp [hkk]
        have HG := Lib.hid (And.intro hkx (And.intro g2 g3))
        clear hkk g2 g3 hkx
        go_wp2_with fail
        refine (cC _).mono ?_
        rintro e w1 ⟨rfl, b1⟩
        have hc := c1 w1
        rw [← HDD.out] at hc
        have HB1 := Lib.hid b1
        clear b1
        go_wp2_with fail
        refine hc.mono ?_
        rintro e w2 ⟨v2, rfl, hn2, b2⟩
        obtain ⟨pa2, ca2, pk2, ck2, rfl⟩ := node_form hn2
        simp only at hn2
        have X2 := BX.new hn2
        have b2' := ns_box b2 (.cells #[.int .i64 n.kind, .string n.sp, .string n.nm, .slice pa2 n.al.length ca2, .slice pk2 n.kids.length ck2, .string n.tx, .int .i64 n.at'] 29)
        have B2 := HB1.out.trans (b2'.mono HB1.out.size)
        obtain ⟨d0, d1, d2, d3, d4, d5, d6⟩ := X2.cells
        have cE := e1 _ _ X2.2 (NsT_below hT B2)
        have HB2 := Lib.hid B2
        clear X2 B2 b2' hn2 b2 HB1 hc
        go_wp2_with fail
        refine cE.mono ?_
        rintro e w3 ⟨v3, rfl, hf3, b3⟩
        have hn3 := FreshIs.is _ _ hf3
        obtain ⟨pa3, ca3, pk3, ck3, rfl⟩ := node_form hn3
        have X3 := BX.new hn3
        have b3' := ns_box b3 (.cells #[.int .i64 R.1.kind, .string R.1.sp, .string R.1.nm, .slice pa3 R.1.al.length ca3, .slice pk3 R.1.kids.length ck3, .string R.1.tx, .int .i64 R.1.at'] 29)
        have B3 := HB2.out.trans (b3'.mono HB2.out.size)
        have cAl := cA _ (NsT_below hT B3)
        have HX3 := Lib.hid X3
        have HB3 := Lib.hid B3
        clear X3 B3 b3' hn3 hf3 b3 HB2 cE d0 d1 d2 d3 d4 d5 d6
        go_wp2_with fail
        refine cAl.mono ?_
        rintro e w4 ⟨rfl, b4⟩
        have X4 := HX3.out.below b4
        have HB4 := Lib.hid (HB3.out.trans (b4.mono HB3.out.size))
        have y4 := X4.cells.2.2.2.2.1
        obtain ⟨xa, xc, xk, xd, hv, hxA, hK⟩ := (node_is _ R.1 _).1 X4.2
        simp only [Value.agg.injEq, Array.mk.injEq, List.cons.injEq, Value.slice.injEq, and_true, true_and] at hv
        obtain ⟨⟨hv1, hv2⟩, hv3, hv4⟩ := hv
        rw [← hv3] at hK
        clear hv1 hv2 hv3 hv4 hxA
        obtain ⟨ad, qa, qc, qk, qd, rfl, ⟨-, k1, k2, -⟩, -⟩ := hK.cells 0 hLn
        rw [HG.out.1, HG.out.2.1, show ad.add (0 * 7) = ad from rfl] at k1
        rw [HG.out.1, HG.out.2.2, show ad.add (0 * 7) = ad from rfl] at k2
        simp only [Addr.add, Nat.reduceEqDiff, ↓reduceIte] at k1 k2
        clear b4 HX3 HB3 X4 hK cAl
        go_wp2
        exact bodyPost_ret (v := .bool true) (by simp [results, Tryd.results5, go_sem]) rfl ⟨rfl, HB4.out⟩
      · obtain ⟨g1, g2⟩ := H4.out hk0
        have hkb : ((k : Int) == 0) = false := by simp; omega
        clear hk0
        go_wp2_with fail
        refine (cC _).mono ?_
        rintro e w1 ⟨rfl, b1⟩
        have hc := c1 w1
        rw [← HDD.out] at hc
        have HB1 := Lib.hid b1
        clear b1
        go_wp2_with fail
        refine hc.mono ?_
        rintro e w2 ⟨v2, rfl, hn2, b2⟩
        obtain ⟨pa2, ca2, pk2, ck2, rfl⟩ := node_form hn2
        simp only at hn2
        have X2 := BX.new hn2
        have b2' := ns_box b2 (.cells #[.int .i64 n.kind, .string n.sp, .string n.nm, .slice pa2 n.al.length ca2, .slice pk2 n.kids.length ck2, .string n.tx, .int .i64 n.at'] 29)
        have B2 := HB1.out.trans (b2'.mono HB1.out.size)
        obtain ⟨d0, d1, d2, d3, d4, d5, d6⟩ := X2.cells
        have cE := e1 _ _ X2.2 (NsT_below hT B2)
        have HB2 := Lib.hid B2
        clear X2 B2 b2' hn2 b2 HB1 hc
        go_wp2_with fail
        refine cE.mono ?_
        rintro e w3 ⟨v3, rfl, hf3, b3⟩
        have hn3 := FreshIs.is _ _ hf3
        obtain ⟨pa3, ca3, pk3, ck3, rfl⟩ := node_form hn3
        have b3' := ns_box b3 (.cells #[.int .i64 R.1.kind, .string R.1.sp, .string R.1.nm, .slice pa3 R.1.al.length ca3, .slice pk3 R.1.kids.length ck3, .string R.1.tx, .int .i64 R.1.at'] 29)
        have B3 := HB2.out.trans (b3'.mono HB2.out.size)
        have cAl := cA _ (NsT_below hT B3)
        have HB3 := Lib.hid B3
        clear B3 b3' hn3 hf3 b3 HB2 cE d0 d1 d2 d3 d4 d5 d6
        go_wp2_with fail
        refine cAl.mono ?_
        rintro e w4 ⟨rfl, b4⟩
        have HB4 := Lib.hid (HB3.out.trans (b4.mono HB3.out.size))
        clear b4 HB3 cAl
        go_wp2
        exact bodyPost_ret (v := .bool true) (by simp [results, Tryd.results5, go_sem]) rfl ⟨rfl, HB4.out⟩
end Go.Proofs.YtoehcholbcchcaaDoor
end
