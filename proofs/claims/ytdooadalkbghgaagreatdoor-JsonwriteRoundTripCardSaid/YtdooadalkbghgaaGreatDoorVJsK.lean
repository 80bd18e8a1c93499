/- Packed from the texts JsK. -/
import Derived.Test.YtdooadalkbghgaaGreatDoorVkE
import Derived.Test.YtdooadalkbghgaaGreatDoorVkF
import Derived.Test.YtdooadalkbghgaaGreatDoorVkH
import Derived.Shelf.Unicode.DecodeSlow
import Derived.WalkMore
section
namespace Go.Proofs.YtdooadalkbghgaaGreatDoor
open Go.RowKit
theorem enc_ebJ (r : Int) (h0 : 0 ≤ r) (h1 : r ≤ 1114111) (hs : ¬ (55296 ≤ r ∧ r ≤ 57343)) : Lib.encodeRune r = eb r := by
  have hn : ¬ (r < 0 ∨ 1114111 < r ∨ (55296 ≤ r ∧ r ≤ 57343)) := by omega
  have he : Lib.encodeRuneZ r = encZ r := by
    unfold encZ
    rw [if_neg hn]
    by_cases h1 : r < 128
    · rw [if_pos h1, Lib.encodeRuneZ_one (by omega) (by omega)]
    · rw [if_neg h1]
      by_cases h2 : r < 2048
      · rw [if_pos h2, Lib.encodeRuneZ_two (by omega) (by omega)]
      · rw [if_neg h2]
        by_cases h3 : r < 65536
        · rw [if_pos h3, Lib.encodeRuneZ_three (by omega)]
        · rw [if_neg h3, Lib.encodeRuneZ_four (by omega) (by omega)]
  unfold Lib.encodeRune eb
  rw [he]
theorem decL_scalar (l : List UInt8) (hl : l ≠ []) (h : (decL l).2 ≠ 0) : ¬ (55296 ≤ (decL l).1 ∧ (decL l).1 ≤ 57343) := by
  intro hs
  have he := decL_eb l hl h
  have hz : eb (((decL l).1 : Nat) : Int) = [] := by
    unfold eb encZ
    rw [if_pos (by omega)]
    rfl
  rw [hz] at he
  have hlen := congrArg List.length he
  have := decL_ok l hl
  rw [List.length_take, List.length_nil] at hlen
  have := List.length_pos_iff.2 hl
  omega
theorem TabJ_below {w w' : World} (h : TabJ w) (hb : Below w.heap.size w w') : TabJ w' := ⟨Utf8Tabs_below h.1 hb, EscJ_below h.2.1 hb, ErrJ_below h.2.2 hb⟩
set_option maxRecDepth 100000 in
set_option maxHeartbeats 32000000 in
theorem js_Parse (s : ByteArray) (a : Int) (w : World) (hs : s.size ≤ 1000000) (hT : TabJ w) :
    Calls Tryz.prog 75 #[.string s, .int .i64 a] w fun e w' => e = .returned (.tuple #[.string (ofBytes (parP s.data.toList a).1), .int .i64 (parP s.data.toList a).2.1, .int .i64 (parP s.data.toList a).2.2]) ∧ Below w.heap.size w w' := by
  have hsl : s.data.toList.length = s.size := by simp
  have HSL := Lib.hid hsl
  have hp := parP.eq_1 s.data.toList a
  rw [hsl] at hp
  clear hsl
  generalize parP s.data.toList a = P at *
  by_cases h0 : a < 0
  · rw [if_neg (by omega)] at hp
    have HP := Lib.hid hp
    clear hp
    go_enter Tryz.func75, Tryz.ntmps75
    go_wp2
    go_step3
    go_wp2
    try rw [Exit.noGoto_ret]
    exact bodyPost_ret (v := .tuple #[.string (ofBytes []), .int .i64 a, .int .i64 7]) (by simp [results, Tryz.results75, go_sem]; rfl) rfl ⟨jretP HP.out, Below.refl _ _⟩
  obtain ⟨n, rfl⟩ := Int.eq_ofNat_of_zero_le (by omega : 0 ≤ a)
  rw [Int.toNat_natCast] at hp
  by_cases h1 : n < s.size
  · have hix := jix s .i64 (n : Int) n rfl h1
    have e34 := u8_at (s.data.toList.getD n 0) 34
    rw [show (((34 : UInt8).toNat : Nat) : Int) = 34 from rfl] at e34
    generalize s.data.toList.getD n 0 = x at *
    generalize (x.toNat : Int) = z at *
    by_cases hq : z = 34
    · rw [if_pos ⟨by omega, by omega, e34.2 hq⟩] at hp
      have HP := Lib.hid hp
      subst hq
      have hfr := bld_fresh w
      have HT := Lib.hid hT
      have hd1 : decide ((n : Int) < 0) = false := by simp
      have hd2 : decide (s.size ≤ n) = false := by simp; omega
      clear hp e34 hT
      go_enter Tryz.func75, Tryz.ntmps75
      go_wp2
      go_step3
      go_wp2
      go_step3
      go_wp2
      go_loopw [8, 9, 10, 11, 12] (fun q _ _ _ _ wr => ∃ (k : Nat) (acc : List UInt8), 1 ≤ k ∧ k ≤ s.size ∧ q = .int .i64 k ∧ (P = parJ (n : Int) (k : Int) (s.data.toList.drop k) acc ∧ acc.length ≤ 4 * k) ∧ Bld w.heap.size w.heap.size acc wr ∧ Below w.heap.size w wr) (fun q _ _ _ _ _ => s.size - (RowKit.intOf q).toNat)
      case atStart => exact ⟨n + 1, [], by omega, by omega, by go_num, ⟨HP.out, by simp⟩, hfr, (Below.refl _ _).alloc (Nat.le_refl _) _⟩
      case round =>
        obtain ⟨k, acc, hk1, hk, rfl, ⟨hrel, hal⟩, hB, hbel⟩ := hrel
        have hz := hbel.size
        clear HP hix hfr
        by_cases hlt : k < s.size
        · have hdl : (s.data.toList.drop k).length = s.size - k := by rw [List.length_drop, HSL.out]
          have hne : s.data.toList.drop k ≠ [] := fun e => by rw [e] at hdl; simp at hdl; omega
          have hix := jix s .i64 (k : Int) k rfl hlt
          rw [parJ_eq _ _ _ _ hne, hdl, List.drop_drop, List.drop_drop, j_getD, Nat.add_zero] at hrel
          have hok := decL_ok _ hne
          rw [hdl] at hok
          have hsc := decL_scalar _ hne
          have hsq := fun h => seqL_ok (s.data.toList.drop k) (by rw [hdl]; exact h)
          rw [hdl] at hsq
          have cD : ∀ wx, HasUtf8 wx → _ := fun wx => text_Decode s (k : Int) wx (by unfold maxLen; omega)
          rw [decI_at s k hlt, decP_drop s k (by omega)] at cD
          have hD : (ofBytes (s.data.toList.drop k)).size = s.size - k := by rw [ofBytes_size]; exact hdl
          have cS : k + 2 ≤ s.size → ∀ wx, EscJ wx → ErrJ wx → _ := fun h wx h1 h2 => js_sequence (ofBytes (s.data.toList.drop k)) wx (by omega) (by omega) h1 h2
          rw [ofBytes_list] at cS
          have hsf : ∀ wx, _ := fun wx => slice_from s (k : Int) (by omega) (by omega) wx
          rw [Int.toNat_natCast, eext, List.take_of_length_le (by rw [hdl]; exact Nat.le_refl _)] at hsf
          have e34 := u8_at (s.data.toList.getD k 0) 34
          have e92 := u8_at (s.data.toList.getD k 0) 92
          rw [show (((34 : UInt8).toNat : Nat) : Int) = 34 from rfl] at e34
          rw [show (((92 : UInt8).toNat : Nat) : Int) = 92 from rfl] at e92
          have t0 := TabJ_below HT.out hbel
          have hkz : (k : Int) < (s.size : Int) := by omega
          clear hne hdl hD
          generalize s.data.toList.getD k 0 = y at *
          have hy8 := y.toNat_lt
          obtain ⟨z, hzy⟩ : ∃ z : Int, (y.toNat : Int) = z := ⟨_, rfl⟩
          rw [hzy] at hix e34 e92
          generalize seqL (s.data.toList.drop k) = Q at *
          generalize decL (s.data.toList.drop k) = d at *
          generalize ofBytes (s.data.toList.drop k) = D at *
          obtain ⟨r, m⟩ := d
          obtain ⟨q1, q2⟩ := Q
          simp only at cD hrel hok hsq cS hsc
          obtain ⟨hn1, hn2, hn3, _⟩ := hok
          have hz0 : 0 ≤ z := by omega
          have hz8 : z ≤ 255 := by omega
          by_cases c1 : z = 34
          · rw [if_pos (e34.2 c1)] at hrel
            have HR := Lib.hid hrel
            have W2 : ∀ wx, Bld w.heap.size w.heap.size acc wx → w.heap.size ≤ wx.heap.size → _ := fun wx h1 h2 => bld_String w.heap.size w.heap.size acc wx h1 h2
            clear hrel hsq cS cD hsf hsc e34 e92 hzy hy8 t0
            subst c1
            go_wp2_with fail
            refine (W2 _ hB hz).mono ?_
            rintro e w2 ⟨rfl, B2, b2⟩
            go_wp2
            try rw [Exit.noGoto_ret]
            exact bodyPost_ret (v := .tuple #[.string (ofBytes acc), .int .i64 ((k : Int) + 1), .int .i64 0]) (by simp [results, Tryz.results75, go_sem]) rfl ⟨jretP HR.out, hbel.trans b2⟩
          rw [if_neg (fun h => c1 (e34.1 h))] at hrel
          have hb34 : (z == 34) = false := by simpa using c1
          by_cases c2 : z = 92
          · rw [if_pos (e92.2 c2)] at hrel
            subst c2
            clear e34 e92 hsc cD
            by_cases c4 : k + 1 = s.size
            · rw [if_pos (by omega)] at hrel
              have HR := Lib.hid hrel
              have c4z : (k : Int) + 1 = (s.size : Int) := by omega
              have C4 := Lib.hid c4
              clear hrel hsq cS c4 hsf
              go_wp2
              try rw [Exit.noGoto_ret]
              exact bodyPost_ret (v := .tuple #[.string (ofBytes []), .int .i64 n, .int .i64 8]) (by simp [results, Tryz.results75, go_sem]; rfl) rfl ⟨jretP HR.out, hbel⟩
            rw [if_neg (by omega)] at hrel
            have cS := cS (by omega)
            have hsq := hsq (by omega)
            have c4z : ¬ (k : Int) + 1 = (s.size : Int) := by omega
            obtain ⟨s1, s2, s3, s4, s5, s6⟩ := hsq
            rcases Nat.eq_zero_or_pos q2 with rfl | hq0
            · rw [if_pos rfl] at hrel
              have HR := Lib.hid hrel
              clear hrel
              go_wp2_with fail
              refine (cS _ t0.2.1 t0.2.2).mono ?_
              rintro e w1 ⟨rfl, b1⟩
              go_wp2
              try rw [Exit.noGoto_ret]
              exact bodyPost_ret (v := .tuple #[.string (ofBytes []), .int .i64 k, .int .i64 16]) (by simp [results, Tryz.results75, go_sem]; rfl) rfl ⟨jretP HR.out, hbel.trans (b1.mono hz)⟩
            · rw [if_neg (by omega)] at hrel
              have W2 : ∀ wx, Bld w.heap.size w.heap.size acc wx → w.heap.size ≤ wx.heap.size → _ := fun wx h1 h2 => bld_WriteRune w.heap.size w.heap.size acc q1 (by omega) (by omega) wx h1 (by omega) h2
              rw [enc_ebJ q1 s3 s4 s5] at W2
              have hebl := eb_len q1
              have hq2z : (q2 : Int) ≠ 0 := by omega
              have HR := Lib.hid hrel
              have hal2 : (acc ++ eb q1).length ≤ 4 * (k + q2) := by rw [List.length_append]; omega
              have HAL := Lib.hid hal2
              clear hrel s5 s6 hal2 hebl
              generalize acc ++ eb q1 = acc2 at *
              generalize (Lib.runeCells q1).length = rlen at *
              go_wp2_with fail
              refine (cS _ t0.2.1 t0.2.2).mono ?_
              rintro e w1 ⟨rfl, b1⟩
              have z1 := b1.size
              have hB1 := hB.below b1
              go_wp2_with fail
              refine (W2 _ hB1 (by omega)).mono ?_
              rintro e w2 ⟨rfl, B2, b2⟩
              go_wp2
              go_roundw
              case rel => exact ⟨k + q2, acc2, by omega, by omega, by go_num, ⟨HR.out, HAL.out⟩, B2, (hbel.trans (b1.mono hz)).trans b2⟩
              case measure => simp [RowKit.intOf]; omega
          rw [if_neg (fun h => c2 (e92.1 h))] at hrel
          have hb92 : (z == 92) = false := by simpa using c2
          clear hsq cS hsf e34 e92
          by_cases c3 : z < 32
          · rw [if_pos (by omega)] at hrel
            have HR := Lib.hid hrel
            clear hrel cD hsc
            go_wp2
            try rw [Exit.noGoto_ret]
            exact bodyPost_ret (v := .tuple #[.string (ofBytes []), .int .i64 k, .int .i64 6]) (by simp [results, Tryz.results75, go_sem]; rfl) rfl ⟨jretP HR.out, hbel⟩
          rw [if_neg (by omega)] at hrel
          obtain ⟨rz, hrz⟩ : ∃ rz : Int, (r : Int) = rz := ⟨_, rfl⟩
          rw [hrz] at cD hrel
          rcases Nat.eq_zero_or_pos m with rfl | hm0
          · rw [if_pos rfl] at hrel
            have HR := Lib.hid hrel
            clear hrel hrz hsc
            go_wp2_with fail
            refine (cD _ t0.1).mono ?_
            rintro e w1 ⟨rfl, b1⟩
            go_wp2
            try rw [Exit.noGoto_ret]
            exact bodyPost_ret (v := .tuple #[.string (ofBytes []), .int .i64 k, .int .i64 5]) (by simp [results, Tryz.results75, go_sem]; rfl) rfl ⟨jretP HR.out, hbel.trans (b1.mono hz)⟩
          · rw [if_neg (by omega)] at hrel
            have hsc := hsc (by omega)
            have W2 : ∀ wx, Bld w.heap.size w.heap.size acc wx → w.heap.size ≤ wx.heap.size → _ := fun wx h1 h2 => bld_WriteRune w.heap.size w.heap.size acc rz (by omega) (by omega) wx h1 (by omega) h2
            rw [enc_ebJ rz (by omega) (by omega) (by omega)] at W2
            have hebl := eb_len rz
            have hmz : (m : Int) ≠ 0 := by omega
            have HR := Lib.hid hrel
            have hal2 : (acc ++ eb rz).length ≤ 4 * (k + m) := by rw [List.length_append]; omega
            have HAL := Lib.hid hal2
            clear hrel hal2 hebl hsc hrz
            generalize acc ++ eb rz = acc2 at *
            generalize (Lib.runeCells rz).length = rlen at *
            go_wp2_with fail
            refine (cD _ t0.1).mono ?_
            rintro e w1 ⟨rfl, b1⟩
            have z1 := b1.size
            have hB1 := hB.below b1
            go_wp2_with fail
            refine (W2 _ hB1 (by omega)).mono ?_
            rintro e w2 ⟨rfl, B2, b2⟩
            go_wp2
            go_roundw
            case rel => exact ⟨k + m, acc2, by omega, by omega, by go_num, ⟨HR.out, HAL.out⟩, B2, (hbel.trans (b1.mono hz)).trans b2⟩
            case measure => simp [RowKit.intOf]; omega
        · obtain rfl : k = s.size := by omega
          rw [List.drop_eq_nil_of_le (by have := HSL.out; omega), parJ_nil] at hrel
          have HR := Lib.hid hrel
          clear hrel
          go_wp2
          try rw [Exit.noGoto_ret]
          exact bodyPost_ret (v := .tuple #[.string (ofBytes []), .int .i64 n, .int .i64 8]) (by simp [results, Tryz.results75, go_sem]; rfl) rfl ⟨jretP HR.out, hbel⟩
    · rw [if_neg (fun h => hq (e34.1 h.2.2))] at hp
      have HP := Lib.hid hp
      have hqb : (z != 34) = true := by simpa using hq
      clear hp e34
      go_enter Tryz.func75, Tryz.ntmps75
      go_wp2
      go_step3
      go_wp2
      try rw [Exit.noGoto_ret]
      exact bodyPost_ret (v := .tuple #[.string (ofBytes []), .int .i64 n, .int .i64 7]) (by simp [results, Tryz.results75, go_sem]; rfl) rfl ⟨jretP HP.out, Below.refl _ _⟩
  · rw [if_neg (by omega)] at hp
    have HP := Lib.hid hp
    clear hp
    go_enter Tryz.func75, Tryz.ntmps75
    go_wp2
    go_step3
    go_wp2
    try rw [Exit.noGoto_ret]
    exact bodyPost_ret (v := .tuple #[.string (ofBytes []), .int .i64 n, .int .i64 7]) (by simp [results, Tryz.results75, go_sem]; rfl) rfl ⟨jretP HP.out, Below.refl _ _⟩
end Go.Proofs.YtdooadalkbghgaaGreatDoor
end
