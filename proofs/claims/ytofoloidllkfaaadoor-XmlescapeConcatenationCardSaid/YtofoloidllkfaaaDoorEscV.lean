/- Package xmlescape: escape, Text, Attr, Unescape: what each returns. -/
import Derived.Test.YtofoloidllkfaaaDoorEscI
import Derived.Test.YtofoloidllkfaaaDoorBldr
namespace Go.Proofs.YtofoloidllkfaaaDoor
open Go.RowKit

set_option maxRecDepth 100000 in
set_option maxHeartbeats 16000000 in
theorem esc_escape_false (s : ByteArray) (w : World) (hs : s.size ≤ 1000000) : Calls Tryd.prog 22 #[.string s, .func (.func 23) #[] #[]] w fun e w' => e = .returned (.string (ofBytes (escP false s.data.toList))) ∧ Below w.heap.size w w' := by
  have hsl : s.data.toList.length = s.size := by simp
  have HSL := Lib.hid hsl
  clear hsl
  have hfr := bld_fresh w
  go_enter Tryd.func22, Tryd.ntmps22
  go_wp2
  go_loopw [6, 11] (fun cp i wr => ∃ (c k : Nat) (acc : List UInt8), c ≤ k ∧ k ≤ s.size ∧ cp = .int .i64 c ∧ i = .int .i64 k ∧ Bld w.heap.size w.heap.size acc wr ∧ Below w.heap.size w wr ∧ (escP false s.data.toList = (acc ++ (s.data.toList.drop c).take (k - c)) ++ escP false (s.data.toList.drop k) ∧ acc.length ≤ 6 * c)) (fun _ i _ => s.size - (intOf i).toNat)
  case atStart => exact ⟨0, 0, [], by omega, by omega, rfl, rfl, hfr, (Below.refl _ _).alloc (Nat.le_refl _) _, by simp, by simp⟩
  case round =>
    obtain ⟨c, k, acc, hck, hk, rfl, rfl, hB, hbel, hrel, hal⟩ := hrel
    have hz := hbel.size
    clear hfr
    by_cases hlt : k < s.size
    · have hkl : k < s.data.toList.length := by have := HSL.out; omega
      obtain ⟨x, hx⟩ : ∃ x, s[k]'hlt = x := ⟨_, rfl⟩
      have hxl : s.data.toList[k]'hkl = x := by rw [← hx]; simp [ByteArray.getElem_eq_getElem_data]
      have htk : (s.data.toList.drop c).take (k + 1 - c) = (s.data.toList.drop c).take (k - c) ++ [x] := by
        rw [show k + 1 - c = (k - c) + 1 by omega, List.take_add_one, List.getElem?_drop, show c + (k - c) = k by omega, List.getElem?_eq_getElem hkl, hxl]; rfl
      rw [List.drop_eq_getElem_cons hkl, hxl, escP_cons, esc_rep, ← List.append_assoc] at hrel
      have hkz : (k : Int) < (s.size : Int) := by omega
      have hx8 := x.toNat_lt
      have cF : ∀ wx, _ := fun wx => esc_inText x wx
      have hrl := repB_len false x
      by_cases hr : repB false x = []
      · rw [if_pos hr] at hrel
        rw [hr, show ofBytes [] = (⟨#[]⟩ : ByteArray) from rfl] at cF
        have R : escP false s.data.toList = (acc ++ (s.data.toList.drop c).take (k + 1 - c)) ++ escP false (s.data.toList.drop (k + 1)) := by
          rw [htk, ← List.append_assoc]; exact hrel
        have HR := Lib.hid R
        clear R hrel htk hxl hr hrl
        obtain ⟨z, hzx⟩ : ∃ z : Int, (x.toNat : Int) = z := ⟨_, rfl⟩
        rw [hzx] at cF
        go_wp2_with fail
        refine (cF _).mono ?_
        rintro e w' ⟨rfl, rfl⟩
        go_wp2
        go_roundw
        case rel => exact ⟨c, k + 1, acc, by omega, by omega, rfl, by go_num, hB, hbel, HR.out, hal⟩
        case measure => simp [intOf]; omega
      · rw [if_neg hr] at hrel
        have R : escP false s.data.toList = ((acc ++ (s.data.toList.drop c).take (k - c) ++ repB false x) ++ (s.data.toList.drop (k + 1)).take (k + 1 - (k + 1))) ++ escP false (s.data.toList.drop (k + 1)) := by
          rw [Nat.sub_self, List.take_zero, List.append_nil]; exact hrel
        have HR := Lib.hid R
        have hml : ((s.data.toList.drop c).take (k - c)).length ≤ k - c := List.length_take_le _ _
        have hsc : ∀ wx, _ := fun wx => slice_mid s (c : Int) (k : Int) (by omega) (by omega) (by omega) wx
        rw [Int.toNat_natCast, Int.toNat_natCast, eext] at hsc
        generalize (s.data.toList.drop c).take (k - c) = md at *
        have hne1 : (ofBytes (repB false x)).toList.isEmpty = false := by
          rw [ByteArray.toList_eq, ofBytes_list]
          cases hh : repB false x with
          | nil => exact absurd hh hr
          | cons _ _ => rfl
        have hne2 : ¬ (ofBytes (repB false x)).toList = [] := by rw [ByteArray.toList_eq, ofBytes_list]; exact hr
        have zm : (ofBytes md).size = md.length := ofBytes_size md
        have zr : (ofBytes (repB false x)).size = (repB false x).length := ofBytes_size _
        have W1 : ∀ wx, Bld w.heap.size w.heap.size acc wx → w.heap.size ≤ wx.heap.size → _ := fun wx h1 h2 => bld_WriteString w.heap.size w.heap.size acc (ofBytes md) wx h1 (by omega) h2
        have W2 : ∀ wx, Bld w.heap.size w.heap.size (acc ++ md) wx → w.heap.size ≤ wx.heap.size → _ := fun wx h1 h2 => bld_WriteString w.heap.size w.heap.size (acc ++ md) (ofBytes (repB false x)) wx h1 (by rw [List.length_append]; omega) h2
        rw [ofBytes_list] at W1 W2
        have hal2 : (acc ++ md ++ repB false x).length ≤ 6 * (k + 1) := by rw [List.length_append, List.length_append]; omega
        clear R hrel htk hxl hr hml zm zr hrl
        generalize acc ++ md ++ repB false x = acc3 at *
        generalize acc ++ md = acc2 at *
        generalize ofBytes (repB false x) = RS at *
        generalize ofBytes md = MS at *
        obtain ⟨z, hzx⟩ : ∃ z : Int, (x.toNat : Int) = z := ⟨_, rfl⟩
        rw [hzx] at cF
        go_wp2_with fail
        refine (cF _).mono ?_
        rintro e w' ⟨rfl, rfl⟩
        go_wp2_with fail
        refine (W1 _ hB hz).mono ?_
        rintro e w1 ⟨rfl, B1, b1⟩
        have z1 := b1.size
        go_wp2_with fail
        refine (W2 _ B1 (by omega)).mono ?_
        rintro e w2 ⟨rfl, B2, b2⟩
        go_wp2
        go_roundw
        case rel => exact ⟨k + 1, k + 1, _, by omega, by omega, by go_num, by go_num, B2, (hbel.trans b1).trans b2, HR.out, hal2⟩
        case measure => simp [intOf]; omega
    · obtain rfl : k = s.size := by omega
      have hsf : ∀ wx, _ := fun wx => slice_from s (c : Int) (by omega) (by omega) wx
      rw [Int.toNat_natCast, eext] at hsf
      rw [List.drop_eq_nil_of_le (i := s.size) (by have := HSL.out; omega), show escP false [] = [] from rfl, List.append_nil] at hrel
      have hml : ((s.data.toList.drop c).take (s.size - c)).length ≤ s.size - c := List.length_take_le _ _
      generalize (s.data.toList.drop c).take (s.size - c) = md at *
      have zm : (ofBytes md).size = md.length := ofBytes_size md
      have W1 : ∀ wx, Bld w.heap.size w.heap.size acc wx → w.heap.size ≤ wx.heap.size → _ := fun wx h1 h2 => bld_WriteString w.heap.size w.heap.size acc (ofBytes md) wx h1 (by omega) h2
      rw [ofBytes_list] at W1
      have W2 : ∀ wx, Bld w.heap.size w.heap.size (acc ++ md) wx → w.heap.size ≤ wx.heap.size → _ := fun wx h1 h2 => bld_String w.heap.size w.heap.size (acc ++ md) wx h1 h2
      have HE := Lib.hid hrel
      clear hrel hml zm
      generalize acc ++ md = E at *
      generalize ofBytes md = MS at *
      go_wp2_with fail
      refine (W1 _ hB hz).mono ?_
      rintro e w1 ⟨rfl, B1, b1⟩
      have z1 := b1.size
      go_wp2_with fail
      refine (W2 _ B1 (by omega)).mono ?_
      rintro e w2 ⟨rfl, B2, b2⟩
      go_wp2
      go_ret
      exact ⟨eretS (by rw [HE.out]), (hbel.trans b1).trans b2⟩
set_option maxRecDepth 100000 in
set_option maxHeartbeats 16000000 in
theorem esc_escape_true (s : ByteArray) (w : World) (hs : s.size ≤ 1000000) : Calls Tryd.prog 22 #[.string s, .func (.func 24) #[] #[]] w fun e w' => e = .returned (.string (ofBytes (escP true s.data.toList))) ∧ Below w.heap.size w w' := by
  have hsl : s.data.toList.length = s.size := by simp
  have HSL := Lib.hid hsl
  clear hsl
  have hfr := bld_fresh w
  go_enter Tryd.func22, Tryd.ntmps22
  go_wp2
  go_loopw [6, 11] (fun cp i wr => ∃ (c k : Nat) (acc : List UInt8), c ≤ k ∧ k ≤ s.size ∧ cp = .int .i64 c ∧ i = .int .i64 k ∧ Bld w.heap.size w.heap.size acc wr ∧ Below w.heap.size w wr ∧ (escP true s.data.toList = (acc ++ (s.data.toList.drop c).take (k - c)) ++ escP true (s.data.toList.drop k) ∧ acc.length ≤ 6 * c)) (fun _ i _ => s.size - (intOf i).toNat)
  case atStart => exact ⟨0, 0, [], by omega, by omega, rfl, rfl, hfr, (Below.refl _ _).alloc (Nat.le_refl _) _, by simp, by simp⟩
  case round =>
    obtain ⟨c, k, acc, hck, hk, rfl, rfl, hB, hbel, hrel, hal⟩ := hrel
    have hz := hbel.size
    clear hfr
    by_cases hlt : k < s.size
    · have hkl : k < s.data.toList.length := by have := HSL.out; omega
      obtain ⟨x, hx⟩ : ∃ x, s[k]'hlt = x := ⟨_, rfl⟩
      have hxl : s.data.toList[k]'hkl = x := by rw [← hx]; simp [ByteArray.getElem_eq_getElem_data]
      have htk : (s.data.toList.drop c).take (k + 1 - c) = (s.data.toList.drop c).take (k - c) ++ [x] := by
        rw [show k + 1 - c = (k - c) + 1 by omega, List.take_add_one, List.getElem?_drop, show c + (k - c) = k by omega, List.getElem?_eq_getElem hkl, hxl]; rfl
      rw [List.drop_eq_getElem_cons hkl, hxl, escP_cons, esc_rep, ← List.append_assoc] at hrel
      have hkz : (k : Int) < (s.size : Int) := by omega
      have hx8 := x.toNat_lt
      have cF : ∀ wx, _ := fun wx => esc_inAttr x wx
      have hrl := repB_len true x
      by_cases hr : repB true x = []
      · rw [if_pos hr] at hrel
        rw [hr, show ofBytes [] = (⟨#[]⟩ : ByteArray) from rfl] at cF
        have R : escP true s.data.toList = (acc ++ (s.data.toList.drop c).take (k + 1 - c)) ++ escP true (s.data.toList.drop (k + 1)) := by
          rw [htk, ← List.append_assoc]; exact hrel
        have HR := Lib.hid R
        clear R hrel htk hxl hr hrl
        obtain ⟨z, hzx⟩ : ∃ z : Int, (x.toNat : Int) = z := ⟨_, rfl⟩
        rw [hzx] at cF
        go_wp2_with fail
        refine (cF _).mono ?_
        rintro e w' ⟨rfl, rfl⟩
        go_wp2
        go_roundw
        case rel => exact ⟨c, k + 1, acc, by omega, by omega, rfl, by go_num, hB, hbel, HR.out, hal⟩
        case measure => simp [intOf]; omega
      · rw [if_neg hr] at hrel
        have R : escP true s.data.toList = ((acc ++ (s.data.toList.drop c).take (k - c) ++ repB true x) ++ (s.data.toList.drop (k + 1)).take (k + 1 - (k + 1))) ++ escP true (s.data.toList.drop (k + 1)) := by
          rw [Nat.sub_self, List.take_zero, List.append_nil]; exact hrel
        have HR := Lib.hid R
        have hml : ((s.data.toList.drop c).take (k - c)).length ≤ k - c := List.length_take_le _ _
        have hsc : ∀ wx, _ := fun wx => slice_mid s (c : Int) (k : Int) (by omega) (by omega) (by omega) wx
        rw [Int.toNat_natCast, Int.toNat_natCast, eext] at hsc
        generalize (s.data.toList.drop c).take (k - c) = md at *
        have hne1 : (ofBytes (repB true x)).toList.isEmpty = false := by
          rw [ByteArray.toList_eq, ofBytes_list]
          cases hh : repB true x with
          | nil => exact absurd hh hr
          | cons _ _ => rfl
        have hne2 : ¬ (ofBytes (repB true x)).toList = [] := by rw [ByteArray.toList_eq, ofBytes_list]; exact hr
        have zm : (ofBytes md).size = md.length := ofBytes_size md
        have zr : (ofBytes (repB true x)).size = (repB true x).length := ofBytes_size _
        have W1 : ∀ wx, Bld w.heap.size w.heap.size acc wx → w.heap.size ≤ wx.heap.size → _ := fun wx h1 h2 => bld_WriteString w.heap.size w.heap.size acc (ofBytes md) wx h1 (by omega) h2
        have W2 : ∀ wx, Bld w.heap.size w.heap.size (acc ++ md) wx → w.heap.size ≤ wx.heap.size → _ := fun wx h1 h2 => bld_WriteString w.heap.size w.heap.size (acc ++ md) (ofBytes (repB true x)) wx h1 (by rw [List.length_append]; omega) h2
        rw [ofBytes_list] at W1 W2
        have hal2 : (acc ++ md ++ repB true x).length ≤ 6 * (k + 1) := by rw [List.length_append, List.length_append]; omega
        clear R hrel htk hxl hr hml zm zr hrl
        generalize acc ++ md ++ repB true x = acc3 at *
        generalize acc ++ md = acc2 at *
        generalize ofBytes (repB true x) = RS at *
        generalize ofBytes md = MS at *
        obtain ⟨z, hzx⟩ : ∃ z : Int, (x.toNat : Int) = z := ⟨_, rfl⟩
        rw [hzx] at cF
        go_wp2_with fail
        refine (cF _).mono ?_
        rintro e w' ⟨rfl, rfl⟩
        go_wp2_with fail
        refine (W1 _ hB hz).mono ?_
        rintro e w1 ⟨rfl, B1, b1⟩
        have z1 := b1.size
        go_wp2_with fail
        refine (W2 _ B1 (by omega)).mono ?_
        rintro e w2 ⟨rfl, B2, b2⟩
        go_wp2
        go_roundw
        case rel => exact ⟨k + 1, k + 1, _, by omega, by omega, by go_num, by go_num, B2, (hbel.trans b1).trans b2, HR.out, hal2⟩
        case measure => simp [intOf]; omega
    · obtain rfl : k = s.size := by omega
      have hsf : ∀ wx, _ := fun wx => slice_from s (c : Int) (by omega) (by omega) wx
      rw [Int.toNat_natCast, eext] at hsf
      rw [List.drop_eq_nil_of_le (i := s.size) (by have := HSL.out; omega), show escP true [] = [] from rfl, List.append_nil] at hrel
      have hml : ((s.data.toList.drop c).take (s.size - c)).length ≤ s.size - c := List.length_take_le _ _
      generalize (s.data.toList.drop c).take (s.size - c) = md at *
      have zm : (ofBytes md).size = md.length := ofBytes_size md
      have W1 : ∀ wx, Bld w.heap.size w.heap.size acc wx → w.heap.size ≤ wx.heap.size → _ := fun wx h1 h2 => bld_WriteString w.heap.size w.heap.size acc (ofBytes md) wx h1 (by omega) h2
      rw [ofBytes_list] at W1
      have W2 : ∀ wx, Bld w.heap.size w.heap.size (acc ++ md) wx → w.heap.size ≤ wx.heap.size → _ := fun wx h1 h2 => bld_String w.heap.size w.heap.size (acc ++ md) wx h1 h2
      have HE := Lib.hid hrel
      clear hrel hml zm
      generalize acc ++ md = E at *
      generalize ofBytes md = MS at *
      go_wp2_with fail
      refine (W1 _ hB hz).mono ?_
      rintro e w1 ⟨rfl, B1, b1⟩
      have z1 := b1.size
      go_wp2_with fail
      refine (W2 _ B1 (by omega)).mono ?_
      rintro e w2 ⟨rfl, B2, b2⟩
      go_wp2
      go_ret
      exact ⟨eretS (by rw [HE.out]), (hbel.trans b1).trans b2⟩
set_option maxRecDepth 100000 in
set_option maxHeartbeats 4000000 in
theorem esc_Text (s : ByteArray) (w : World) (hs : s.size ≤ 1000000) (_hT : EscT w) : Calls Tryd.prog 10 #[.string s] w fun e w' => e = .returned (.string (ofBytes (escP false s.data.toList))) ∧ Below w.heap.size w w' := by
  have c1 : ∀ wx, _ := fun wx => esc_escape_false s wx hs
  generalize ofBytes (escP false s.data.toList) = E at *
  go_enter Tryd.func10, Tryd.ntmps10
  go_wp2_with fail
  refine (c1 _).mono ?_
  rintro e w1 ⟨rfl, b1⟩
  go_wp2
  go_ret
  exact ⟨rfl, b1⟩
set_option maxRecDepth 100000 in
set_option maxHeartbeats 4000000 in
theorem esc_Attr (s : ByteArray) (w : World) (hs : s.size ≤ 1000000) (_hT : EscT w) : Calls Tryd.prog 12 #[.string s] w fun e w' => e = .returned (.string (ofBytes (escP true s.data.toList))) ∧ Below w.heap.size w w' := by
  have c1 : ∀ wx, _ := fun wx => esc_escape_true s wx hs
  generalize ofBytes (escP true s.data.toList) = E at *
  go_enter Tryd.func12, Tryd.ntmps12
  go_wp2_with fail
  refine (c1 _).mono ?_
  rintro e w1 ⟨rfl, b1⟩
  go_wp2
  go_ret
  exact ⟨rfl, b1⟩
theorem idx_cases (c : UInt8) : ∀ l : List UInt8, (Lib.indexByte l c = -1 ∧ c ∉ l) ∨ ∃ n : Nat, Lib.indexByte l c = (n : Int) ∧ n < l.length ∧ l.getD n 0 = c ∧ c ∉ l.take n
  | [] => .inl ⟨rfl, by simp⟩
  | b :: l => by
    rw [Lib.indexByte]
    by_cases hb : b = c
    · subst hb
      rw [if_pos (by simp)]
      exact .inr ⟨0, rfl, by simp, rfl, by simp⟩
    · rw [if_neg (by simpa using hb)]
      rcases idx_cases c l with ⟨h1, h2⟩ | ⟨n, h1, h2, h3, h4⟩
      · rw [h1, if_pos (by decide)]
        exact .inl ⟨rfl, by rw [List.mem_cons, not_or]; exact ⟨fun e => hb e.symm, h2⟩⟩
      · rw [h1, if_neg (by simp)]
        refine .inr ⟨n + 1, by omega, by simpa using h2, by simpa using h3, ?_⟩
        rw [List.take_succ_cons, List.mem_cons, not_or]
        exact ⟨fun e => hb e.symm, h4⟩
/-- Bytes that are no ampersand are taken over. -/
theorem unF_skip (l : List UInt8) : ∀ (n f k : Nat) (out : List UInt8), k + n ≤ l.length → n ≤ f → (38 : UInt8) ∉ (l.drop k).take n → unF l f k out = unF l (f - n) (k + n) (out ++ (l.drop k).take n)
  | 0, f, k, out, _, _, _ => by simp
  | n + 1, 0, k, out, _, h, _ => absurd h (by omega)
  | n + 1, f + 1, k, out, hk, hf, hn => by
    have hkl : k < l.length := by omega
    rw [List.drop_eq_getElem_cons hkl, List.take_succ_cons, List.mem_cons, not_or] at hn
    have hg : l.getD k 0 = l[k] := by rw [List.getD_eq_getElem?_getD, List.getElem?_eq_getElem hkl]; rfl
    rw [unF, if_pos hkl, if_neg (by rw [hg]; exact fun e => hn.1 e.symm), hg, unF_skip l n f (k + 1) (out ++ [l[k]]) (by omega) (by omega) hn.2, List.drop_eq_getElem_cons hkl, List.take_succ_cons, List.append_assoc, show f + 1 - (n + 1) = f - n by omega, show k + 1 + n = k + (n + 1) by omega]
    rfl
theorem unF_end (l : List UInt8) (f k : Nat) (out : List UInt8) (hk : k ≤ l.length) (hf : l.length - k < f) (h : (38 : UInt8) ∉ l.drop k) : unF l f k out = (out ++ l.drop k, (l.length : Int), 0) := by
  have ht : (l.drop k).take (l.length - k) = l.drop k := List.take_of_length_le (by rw [List.length_drop]; omega)
  rw [unF_skip l (l.length - k) f k out (by omega) (by omega) (by rw [ht]; exact h), ht, show k + (l.length - k) = l.length by omega]
  obtain ⟨g, hg⟩ : ∃ g, f - (l.length - k) = g + 1 := ⟨f - (l.length - k) - 1, by omega⟩
  rw [hg, unF, if_neg (by omega)]
theorem enc_eb (r : Int) (h : isCharB r = true) : Lib.encodeRune r = eb r := by
  have h := of_decide_eq_true h
  have hn : ¬ (r < 0 ∨ 1114111 < r ∨ (55296 ≤ r ∧ r ≤ 57343)) := by omega
  have he : Lib.encodeRuneZ r = encZ r := by
    unfold encZ
    rw [if_neg hn]
    by_cases h1 : r < 128
    · rw [if_pos h1, Lib.encodeRuneZ_one (by omega) (by omega)]
    · rw [if_neg h1]
      by_cases h2 : r < 2048
      · rw [if_pos h2, Lib.encodeRuneZ_two (by omega) (by omega)]
      · rw [if_neg h2]
        by_cases h3 : r < 65536
        · rw [if_pos h3, Lib.encodeRuneZ_three (by omega)]
        · rw [if_neg h3, Lib.encodeRuneZ_four (by omega) (by omega)]
  unfold Lib.encodeRune eb
  rw [he]
theorem retU {a : List UInt8} {b c : Int} {p : List UInt8 × Int × Int} (h : p = (a, b, c)) : Ending.returned (.tuple #[.string (ofBytes a), .int .i64 b, .int .i64 c]) = .returned (.tuple #[.string (ofBytes p.1), .int .i64 p.2.1, .int .i64 p.2.2]) := by subst h; rfl
theorem esc_Index (s : ByteArray) (z : Int) (w : World) (h : Lib.indexByte s.data.toList 38 = z) : Calls Tryd.prog 17 #[.string s, .int .u8 38] w fun e w' => e = .returned (.int .i64 z) ∧ w = w' := by
  have := Tryd.strings_IndexByte s 38 w
  rw [show ((38 : Int).toNat.toUInt8) = (38 : UInt8) from rfl, h] at this
  exact this.mono fun e w' ⟨a, b⟩ => ⟨a, b.symm⟩
set_option maxRecDepth 100000 in
set_option maxHeartbeats 16000000 in
theorem esc_Unescape (s : ByteArray) (w : World) (hs : s.size ≤ 1000000) (hT : EscT w) : Calls Tryd.prog 15 #[.string s] w fun e w' => e = .returned (.tuple #[.string (ofBytes (unP s.data.toList).1), .int .i64 (unP s.data.toList).2.1, .int .i64 (unP s.data.toList).2.2]) ∧ Below w.heap.size w w' := by
  have hsl : s.data.toList.length = s.size := by simp
  have HSL := Lib.hid hsl
  clear hsl
  have hfr := bld_fresh w
  go_enter Tryd.func15, Tryd.ntmps15
  go_wp2
  go_loopw [6] (fun q wr => ∃ (k f : Nat) (acc : List UInt8), k ≤ s.size ∧ q = .int .i64 k ∧ (unP s.data.toList = unF s.data.toList f k acc ∧ s.size - k < f) ∧ acc.length ≤ 4 * k ∧ Bld w.heap.size w.heap.size acc wr ∧ Below w.heap.size w wr) (fun q _ => s.size - (intOf q).toNat)
  case atStart => exact ⟨0, s.data.toList.length + 1, [], by omega, rfl, ⟨rfl, by have := HSL.out; omega⟩, by simp, hfr, (Below.refl _ _).alloc (Nat.le_refl _) _⟩
  case round =>
    obtain ⟨k, f, acc, hk, rfl, ⟨hrel, hf⟩, hal, hB, hbel⟩ := hrel
    have hz := hbel.size
    clear hfr
    have hsf : ∀ wx, _ := fun wx => slice_from s (k : Int) (by omega) (by omega) wx
    rw [Int.toNat_natCast, eext, List.take_of_length_le (by rw [List.length_drop]; have := HSL.out; omega)] at hsf
    have hdl : (s.data.toList.drop k).length = s.size - k := by rw [List.length_drop, HSL.out]
    rcases idx_cases 38 (s.data.toList.drop k) with ⟨h1, h2⟩ | ⟨n, h1, h2, h3, h4⟩
    · rw [unF_end _ f k acc (by have := HSL.out; omega) (by have := HSL.out; omega) h2, HSL.out] at hrel
      have HR := Lib.hid hrel
      have cI : ∀ wx, _ := fun wx => esc_Index (ofBytes (s.data.toList.drop k)) (-1) wx (by rw [ofBytes_list]; exact h1)
      have zm : (ofBytes (s.data.toList.drop k)).size = (s.data.toList.drop k).length := ofBytes_size _
      have W1 : ∀ wx, Bld w.heap.size w.heap.size acc wx → w.heap.size ≤ wx.heap.size → _ := fun wx h1 h2 => bld_WriteString w.heap.size w.heap.size acc (ofBytes (s.data.toList.drop k)) wx h1 (by omega) h2
      rw [ofBytes_list] at W1
      have W2 : ∀ wx, Bld w.heap.size w.heap.size (acc ++ s.data.toList.drop k) wx → w.heap.size ≤ wx.heap.size → _ := fun wx h1 h2 => bld_String w.heap.size w.heap.size (acc ++ s.data.toList.drop k) wx h1 h2
      clear hrel h1 h2 zm hdl
      generalize acc ++ s.data.toList.drop k = E at *
      generalize ofBytes (s.data.toList.drop k) = MS at *
      (go_wp2_with fail); (refine (cI _).mono ?_); (rintro e w' ⟨rfl, rfl⟩)
      go_wp2_with fail
      refine (W1 _ hB hz).mono ?_
      rintro e w1 ⟨rfl, B1, b1⟩
      have z1 := b1.size
      go_wp2_with fail
      refine (W2 _ B1 (by omega)).mono ?_
      rintro e w2 ⟨rfl, B2, b2⟩
      go_wp2
      exact bodyPost_ret (v := .tuple #[.string (ofBytes E), .int .i64 s.size, .int .i64 0]) (by simp [results, Tryd.results15, go_sem]) rfl ⟨retU HR.out, (hbel.trans b1).trans b2⟩
    · have hkn : k + n < s.data.toList.length := by have := HSL.out; omega
      have hgd : s.data.toList.getD (k + n) 0 = 38 := by
        rw [← h3, List.getD_eq_getElem?_getD, List.getD_eq_getElem?_getD, List.getElem?_drop]
      rw [unF_skip _ n f k acc (by omega) (by have := HSL.out; omega) h4] at hrel
      obtain ⟨g, hg⟩ : ∃ g, f - n = g + 1 := ⟨f - n - 1, by have := HSL.out; omega⟩
      rw [hg, unF, if_pos hkn, if_pos hgd] at hrel
      have cI : ∀ wx, _ := fun wx => esc_Index (ofBytes (s.data.toList.drop k)) (n : Int) wx (by rw [ofBytes_list]; exact h1)
      have hsm : ∀ wx, _ := fun wx => slice_mid s (k : Int) ((k : Int) + (n : Int)) (by omega) (by omega) (by have := HSL.out; omega) wx
      rw [Int.toNat_natCast, show ((k : Int) + (n : Int)).toNat = k + n by omega, eext, show k + n - k = n by omega] at hsm
      have htl : ((s.data.toList.drop k).take n).length ≤ n := List.length_take_le _ _
      have zm : (ofBytes ((s.data.toList.drop k).take n)).size = ((s.data.toList.drop k).take n).length := ofBytes_size _
      have W1 : ∀ wx, Bld w.heap.size w.heap.size acc wx → w.heap.size ≤ wx.heap.size → _ := fun wx h1 h2 => bld_WriteString w.heap.size w.heap.size acc (ofBytes ((s.data.toList.drop k).take n)) wx h1 (by have := HSL.out; omega) h2
      rw [ofBytes_list] at W1
      have hal2 : (acc ++ (s.data.toList.drop k).take n).length ≤ 4 * (k + n) := by rw [List.length_append]; omega
      have cR : ∀ wx, EscT wx → _ := fun wx => esc_Reference s ((k : Int) + (n : Int)) wx hs
      rw [show ((k : Int) + (n : Int)) = ((k + n : Nat) : Int) by omega, refP_at _ _ hkn hgd] at cR
      have hkz : (k : Int) + (n : Int) ≤ 1000000 := by have := HSL.out; omega
      have hkz2 : (k : Int) + (n : Int) ≤ (s.size : Int) := by have := HSL.out; omega
      have hn0 : (0 : Int) ≤ (n : Int) := by omega
      rcases refAt_cases s.data.toList (k + n) with hr | ⟨r, j, hr, g1, g2, g3, g4, g5⟩
      · rw [hr] at cR hrel
        have HR := Lib.hid (hrel.trans (if_neg (by decide)))
        rw [show ((k + n : Nat) : Int) = (k : Int) + (n : Int) by omega] at cR
        clear hrel hr hgd h1 h2 h3 h4 zm htl hdl hg hkn hal2
        generalize acc ++ (s.data.toList.drop k).take n = E at *
        generalize ofBytes ((s.data.toList.drop k).take n) = MS at *
        generalize ofBytes (s.data.toList.drop k) = DS at *
        (go_wp2_with fail); (refine (cI _).mono ?_); (rintro e w' ⟨rfl, rfl⟩)
        go_wp2_with fail
        refine (W1 _ hB hz).mono ?_
        rintro e w1 ⟨rfl, B1, b1⟩
        have t1 := EscT_below hT (hbel.trans b1)
        have z1 := b1.size
        go_wp2_with fail
        refine (cR _ t1).mono ?_
        rintro e w2 ⟨rfl, b2⟩
        go_wp2
        exact bodyPost_ret (v := .tuple #[.string ⟨#[]⟩, .int .i64 ((k : Int) + (n : Int)), .int .i64 12]) (by simp [results, Tryd.results15, go_sem]) rfl ⟨retU (a := []) (by rw [HR.out]; simp), (hbel.trans b1).trans (b2.mono (by omega))⟩
      · rw [hr] at cR hrel
        have HR := Lib.hid (hrel.trans (if_pos rfl))
        rw [show ((k + n : Nat) : Int) = (k : Int) + (n : Int) by omega] at cR
        have hebl := eb_len r
        have W2 : ∀ wx, Bld w.heap.size w.heap.size (acc ++ (s.data.toList.drop k).take n) wx → w.heap.size ≤ wx.heap.size → _ := fun wx h1 h2 => bld_WriteRune w.heap.size w.heap.size (acc ++ (s.data.toList.drop k).take n) r (by omega) (by omega) wx h1 (by omega) h2
        rw [enc_eb r g3] at W2
        have hal3 : (acc ++ (s.data.toList.drop k).take n ++ eb r).length ≤ 4 * j := by rw [List.length_append]; omega
        have hjs : j ≤ s.size := by have := HSL.out; omega
        have hgf : s.size - j < g := by have := HSL.out; omega
        have hkj : k < j := by omega
        clear hrel hr hgd h1 h2 h3 h4 zm htl hdl hg hkn hal2 g3 hebl
        generalize acc ++ (s.data.toList.drop k).take n ++ eb r = E3 at *
        generalize acc ++ (s.data.toList.drop k).take n = E at *
        generalize ofBytes ((s.data.toList.drop k).take n) = MS at *
        generalize ofBytes (s.data.toList.drop k) = DS at *
        generalize (Lib.runeCells r).length = RL at *
        (go_wp2_with fail); (refine (cI _).mono ?_); (rintro e w' ⟨rfl, rfl⟩)
        go_wp2_with fail
        refine (W1 _ hB hz).mono ?_
        rintro e w1 ⟨rfl, B1, b1⟩
        have t1 := EscT_below hT (hbel.trans b1)
        have z1 := b1.size
        go_wp2_with fail
        refine (cR _ t1).mono ?_
        rintro e w2 ⟨rfl, b2⟩
        have z2 := b2.size
        have z3 : w.heap.size ≤ w2.heap.size := by omega
        go_wp2_with fail
        refine (W2 _ (B1.below b2) z3).mono ?_
        rintro e w3 ⟨rfl, B3, b3⟩
        go_wp2
        go_roundw
        case rel => exact ⟨j, g, E3, hjs, rfl, ⟨HR.out, hgf⟩, hal3, B3, ((hbel.trans b1).trans (b2.mono (by omega))).trans b3⟩
        case measure => simp [intOf]; omega
end Go.Proofs.YtofoloidllkfaaaDoor
