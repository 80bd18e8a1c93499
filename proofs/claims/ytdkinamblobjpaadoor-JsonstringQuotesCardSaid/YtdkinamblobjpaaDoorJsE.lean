/- The reference of layer 10: Parse: what it returns. -/
import Derived.Test.YtdkinamblobjpaaDoorJsC
namespace Go.Proofs.YtdkinamblobjpaaDoor
open Go.RowKit

theorem eob_cat (a b : List UInt8) : ofBytes a ++ ofBytes b = ofBytes (a ++ b) := (jb_app a b).symm
theorem jretP {a : List UInt8} {b c : Int} {p : List UInt8 × Int × Int} (h : p = (a, b, c)) : Ending.returned (.tuple #[.string (ofBytes a), .int .i64 b, .int .i64 c]) = .returned (.tuple #[.string (ofBytes p.1), .int .i64 p.2.1, .int .i64 p.2.2]) := by subst h; rfl
/-- What is decoded at a byte: below 128 the byte itself. -/
theorem decL_low (l : List UInt8) (hl : l ≠ []) (h : (decL l).2 ≠ 0) : ((decL l).1 < 128 ↔ (l.getD 0 0).toNat < 128) ∧ ((decL l).1 < 128 → (decL l).1 = (l.getD 0 0).toNat ∧ (decL l).2 = 1) := by
  obtain ⟨c, t, rfl⟩ := List.exists_cons_of_ne_nil hl
  rw [getD_cons0]
  rcases Nat.lt_or_ge c.toNat 128 with hc | hc
  · rw [decL_asc c t hc]
    exact ⟨Iff.rfl, fun _ => ⟨rfl, rfl⟩⟩
  · have := (decL_high c t hc h).1
    exact ⟨⟨fun h => by omega, fun h => by omega⟩, fun h => by omega⟩
theorem decL_zero (l : List UInt8) (hl : l ≠ []) (h : (decL l).2 = 0) : 128 ≤ (l.getD 0 0).toNat := by
  obtain ⟨c, t, rfl⟩ := List.exists_cons_of_ne_nil hl
  rw [getD_cons0]
  rcases Nat.lt_or_ge c.toNat 128 with hc | hc
  · rw [decL_asc c t hc] at h
    simp at h
  · exact hc
/-- The steps of Parse, as the reference takes them: decoded first. -/
theorem parJ_dec (a i : Int) (l out : List UInt8) (hl : l ≠ []) : parJ a i l out =
    if (decL l).2 = 0 then ([], i, 5)
    else if (decL l).1 < 32 then ([], i, 6)
    else if (decL l).1 = 34 then (out, i + 1, 0)
    else if (decL l).1 = 92 then (if l.length = 1 then ([], a, 8) else if (seqL l).2 = 0 then ([], i, 16) else parJ a (i + (seqL l).2) (l.drop (seqL l).2) (out ++ eb (seqL l).1))
    else parJ a (i + (decL l).2) (l.drop (decL l).2) (out ++ eb ((decL l).1 : Nat)) := by
  rw [parJ_eq a i l out hl]
  have e34 := u8_at (l.getD 0 0) 34
  have e92 := u8_at (l.getD 0 0) 92
  rw [show (((34 : UInt8).toNat : Nat) : Int) = 34 from rfl] at e34
  rw [show (((92 : UInt8).toNat : Nat) : Int) = 92 from rfl] at e92
  simp only [e34, e92]
  by_cases h0 : (decL l).2 = 0
  · have := decL_zero l hl h0
    clear e34 e92
    repeat' split
    all_goals first | rfl | (exfalso; omega)
  · obtain ⟨h1, h2⟩ := decL_low l hl h0
    clear e34 e92
    by_cases hc : (decL l).1 < 128
    · obtain ⟨h3, h4⟩ := h2 hc
      clear h1 h2
      repeat' split
      all_goals first | rfl | (exfalso; omega)
    · have hh : ¬ (l.getD 0 0).toNat < 128 := fun h => hc (h1.2 h)
      clear h1 h2
      repeat' split
      all_goals first | rfl | (exfalso; omega)
set_option maxRecDepth 100000 in
set_option maxHeartbeats 16000000 in
theorem jref_Parse (s : ByteArray) (a : Int) (w : World) (hs : s.size ≤ 1000000) :
    Calls Tryd.prog 13 #[.string s, .int .i64 a] w fun e w' => e = .returned (.tuple #[.string (ofBytes (parP s.data.toList a).1), .int .i64 (parP s.data.toList a).2.1, .int .i64 (parP s.data.toList a).2.2]) ∧ Below w.heap.size w w' := by
  have hsl : s.data.toList.length = s.size := by simp
  have HSL := Lib.hid hsl
  have hp := parP.eq_1 s.data.toList a
  rw [hsl] at hp
  clear hsl
  generalize parP s.data.toList a = P at *
  by_cases h0 : a < 0
  · rw [if_neg (by omega)] at hp
    have HP := Lib.hid hp
    clear hp
    go_enter Tryd.func13, Tryd.ntmps13
    go_wp2
    exact bodyPost_ret (v := .tuple #[.string (ofBytes []), .int .i64 a, .int .i64 7]) (by simp [results, Tryd.results13, go_sem]; rfl) rfl ⟨jretP HP.out, Below.refl _ _⟩
  obtain ⟨n, rfl⟩ := Int.eq_ofNat_of_zero_le (by omega : 0 ≤ a)
  rw [Int.toNat_natCast] at hp
  by_cases h1 : n < s.size
  · have hix := jix s .i64 (n : Int) n rfl h1
    have e34 := u8_at (s.data.toList.getD n 0) 34
    rw [show (((34 : UInt8).toNat : Nat) : Int) = 34 from rfl] at e34
    generalize s.data.toList.getD n 0 = x at *
    generalize (x.toNat : Int) = z at *
    by_cases hq : z = 34
    · rw [if_pos ⟨by omega, by omega, e34.2 hq⟩] at hp
      have HP := Lib.hid hp
      subst hq
      clear hp e34
      go_enter Tryd.func13, Tryd.ntmps13
      go_wp2
      go_loopw [7, 8] (fun v q wr => ∃ (k : Nat) (acc : List UInt8), 1 ≤ k ∧ k ≤ s.size ∧ q = .int .i64 k ∧ v = .string (ofBytes acc) ∧ (P = parJ (n : Int) (k : Int) (s.data.toList.drop k) acc ∧ acc.length ≤ 4 * k) ∧ Below w.heap.size w wr) (fun _ q _ => s.size - (RowKit.intOf q).toNat)
      case atStart => exact ⟨n + 1, [], by omega, by omega, by go_num, rfl, ⟨HP.out, by simp⟩, Below.refl _ _⟩
      case round =>
        obtain ⟨k, acc, hk1, hk, rfl, rfl, ⟨hrel, hal⟩, hbel⟩ := hrel
        have hz := hbel.size
        clear HP hix
        by_cases hlt : k < s.size
        · have hdl : (s.data.toList.drop k).length = s.size - k := by rw [List.length_drop, HSL.out]
          have hne : s.data.toList.drop k ≠ [] := fun e => by rw [e] at hdl; simp at hdl; omega
          have cD : ∀ wx, _ := fun wx => ref_Decode s (k : Int) wx (by unfold maxLen; omega)
          rw [decI_at s k hlt, decP_drop s k (by omega)] at cD
          rw [parJ_dec _ _ _ _ hne, hdl, List.drop_drop, List.drop_drop] at hrel
          have hok := decL_ok _ hne
          rw [hdl] at hok
          have hlow := decL_low _ hne
          have hsq := fun h => seqL_ok (s.data.toList.drop k) (by rw [hdl]; exact h)
          rw [hdl] at hsq
          have cS : k + 2 ≤ s.size → ∀ wx, _ := fun h wx => jref_sequence s k wx hs h
          have ha6 : (ofBytes acc).size ≤ 4000000 := by rw [ofBytes_size]; omega
          clear hne hdl
          generalize seqL (s.data.toList.drop k) = Q at *
          generalize decL (s.data.toList.drop k) = d at *
          obtain ⟨r, m⟩ := d
          obtain ⟨q1, q2⟩ := Q
          simp only at cD hrel hok hlow hsq cS
          obtain ⟨hn1, hn2, hn3, _⟩ := hok
          obtain ⟨rz, hrz⟩ : ∃ rz : Int, (r : Int) = rz := ⟨_, rfl⟩
          rw [hrz] at cD hrel
          rcases Nat.eq_zero_or_pos m with rfl | hm0
          · rw [if_pos rfl] at hrel
            have HR := Lib.hid hrel
            clear hrel hlow hsq cS hrz
            go_wp2_with fail
            refine (cD _).mono ?_
            rintro e w1 ⟨rfl, b1⟩
            go_wp2
            exact bodyPost_ret (v := .tuple #[.string (ofBytes []), .int .i64 k, .int .i64 5]) (by simp [results, Tryd.results13, go_sem]; rfl) rfl ⟨jretP HR.out, hbel.trans (b1.mono hz)⟩
          rw [if_neg (by omega)] at hrel
          have hmz : ((m : Int) == 0) = false := by simp; omega
          have hmz2 : (m : Int) ≠ 0 := by omega
          have hr0 : 0 ≤ rz := by omega
          have hr1 : rz ≤ 1114111 := by omega
          clear hlow
          by_cases c1 : rz < 32
          · rw [if_pos (by omega)] at hrel
            have HR := Lib.hid hrel
            clear hrel hsq cS hrz
            go_wp2_with fail
            refine (cD _).mono ?_
            rintro e w1 ⟨rfl, b1⟩
            go_wp2
            exact bodyPost_ret (v := .tuple #[.string (ofBytes []), .int .i64 k, .int .i64 6]) (by simp [results, Tryd.results13, go_sem]; rfl) rfl ⟨jretP HR.out, hbel.trans (b1.mono hz)⟩
          rw [if_neg (by omega)] at hrel
          by_cases c2 : rz = 34
          · rw [if_pos (by omega)] at hrel
            have HR := Lib.hid hrel
            clear hrel hsq cS hrz
            subst c2
            go_wp2_with fail
            refine (cD _).mono ?_
            rintro e w1 ⟨rfl, b1⟩
            go_wp2
            exact bodyPost_ret (v := .tuple #[.string (ofBytes acc), .int .i64 ((k : Int) + 1), .int .i64 0]) (by simp [results, Tryd.results13, go_sem]) rfl ⟨jretP HR.out, hbel.trans (b1.mono hz)⟩
          rw [if_neg (by omega)] at hrel
          by_cases c3 : rz = 92
          · rw [if_pos (by omega)] at hrel
            subst c3
            by_cases c4 : k + 1 = s.size
            · rw [if_pos (by omega)] at hrel
              have HR := Lib.hid hrel
              have c4z : (k : Int) + 1 = (s.size : Int) := by omega
              have C4 := Lib.hid c4
              clear hrel hsq cS hrz c4
              go_wp2_with fail
              refine (cD _).mono ?_
              rintro e w1 ⟨rfl, b1⟩
              go_wp2
              exact bodyPost_ret (v := .tuple #[.string (ofBytes []), .int .i64 n, .int .i64 8]) (by simp [results, Tryd.results13, go_sem]; rfl) rfl ⟨jretP HR.out, hbel.trans (b1.mono hz)⟩
            rw [if_neg (by omega)] at hrel
            have cS := cS (by omega)
            have hsq := hsq (by omega)
            have c4z : ¬ (k : Int) + 1 = (s.size : Int) := by omega
            obtain ⟨s1, s2, s3, s4, s5, s6⟩ := hsq
            rcases Nat.eq_zero_or_pos q2 with rfl | hq0
            · rw [if_pos rfl] at hrel
              have HR := Lib.hid hrel
              clear hrel hrz
              go_wp2_with fail
              refine (cD _).mono ?_
              rintro e w1 ⟨rfl, b1⟩
              (go_wp2_with fail); (refine (cS _).mono ?_); (rintro e w' ⟨rfl, rfl⟩)
              go_wp2
              exact bodyPost_ret (v := .tuple #[.string (ofBytes []), .int .i64 k, .int .i64 16]) (by simp [results, Tryd.results13, go_sem]; rfl) rfl ⟨jretP HR.out, hbel.trans (b1.mono hz)⟩
            · rw [if_neg (by omega)] at hrel
              have cE : ∀ wx, _ := fun wx => ref_Encode q1 wx
              rw [eb_str] at cE
              have hebl := eb_len q1
              have hes : (ofBytes (eb q1)).size ≤ 4 := by rw [ofBytes_size]; exact hebl
              have hq2z : (q2 : Int) ≠ 0 := by omega
              have HAP := Lib.hid (eob_cat acc (eb q1))
              have HR := Lib.hid hrel
              clear hrel hrz s5 s6
              go_wp2_with fail
              refine (cD _).mono ?_
              rintro e w1 ⟨rfl, b1⟩
              (go_wp2_with fail); (refine (cS _).mono ?_); (rintro e w' ⟨rfl, rfl⟩)
              go_wp2_with fail
              refine (cE _).mono ?_
              rintro e w2 ⟨rfl, b2⟩
              go_wp2
              go_roundw
              case rel => exact ⟨k + q2, acc ++ eb q1, by omega, by omega, by go_num, by rw [HAP.out], ⟨HR.out, by rw [List.length_append]; omega⟩, (hbel.trans (b1.mono hz)).trans (b2.mono (by have := b1.size; omega))⟩
              case measure => simp [RowKit.intOf]; omega
          · rw [if_neg (by omega)] at hrel
            have cE : ∀ wx, _ := fun wx => ref_Encode rz wx
            rw [eb_str] at cE
            have hebl := eb_len rz
            have hes : (ofBytes (eb rz)).size ≤ 4 := by rw [ofBytes_size]; exact hebl
            have HAP := Lib.hid (eob_cat acc (eb rz))
            have HR := Lib.hid hrel
            clear hrel hrz hsq cS
            go_wp2_with fail
            refine (cD _).mono ?_
            rintro e w1 ⟨rfl, b1⟩
            go_wp2_with fail
            refine (cE _).mono ?_
            rintro e w2 ⟨rfl, b2⟩
            go_wp2
            go_roundw
            case rel => exact ⟨k + m, acc ++ eb rz, by omega, by omega, by go_num, by rw [HAP.out], ⟨HR.out, by rw [List.length_append]; omega⟩, (hbel.trans (b1.mono hz)).trans (b2.mono (by have := b1.size; omega))⟩
            case measure => simp [RowKit.intOf]; omega
        · obtain rfl : k = s.size := by omega
          rw [List.drop_eq_nil_of_le (by have := HSL.out; omega), parJ_nil] at hrel
          have HR := Lib.hid hrel
          clear hrel
          go_wp2
          exact bodyPost_ret (v := .tuple #[.string (ofBytes []), .int .i64 n, .int .i64 8]) (by simp [results, Tryd.results13, go_sem]; rfl) rfl ⟨jretP HR.out, hbel⟩
    · rw [if_neg (fun h => hq (e34.1 h.2.2))] at hp
      have HP := Lib.hid hp
      have hqb : (z != 34) = true := by simpa using hq
      clear hp e34
      go_enter Tryd.func13, Tryd.ntmps13
      go_wp2
      exact bodyPost_ret (v := .tuple #[.string (ofBytes []), .int .i64 n, .int .i64 7]) (by simp [results, Tryd.results13, go_sem]; rfl) rfl ⟨jretP HP.out, Below.refl _ _⟩
  · rw [if_neg (by omega)] at hp
    have HP := Lib.hid hp
    clear hp
    go_enter Tryd.func13, Tryd.ntmps13
    go_wp2
    exact bodyPost_ret (v := .tuple #[.string (ofBytes []), .int .i64 n, .int .i64 7]) (by simp [results, Tryd.results13, go_sem]; rfl) rfl ⟨jretP HP.out, Below.refl _ _⟩
end Go.Proofs.YtdkinamblobjpaaDoor
