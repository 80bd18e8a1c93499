/- Packed from the texts EscV. -/
import Derived.Test.YtppmoeidgefkpaaGreatDoorWBldr
import Derived.Test.YtppmoeidgefkpaaGreatDoorWEscI
set_option maxRecDepth 100000
namespace Go.Proofs.YtppmoeidgefkpaaGreatDoor
section
open Go.RowKit
set_option maxHeartbeats 16000000 in
theorem esc_escape_false (s : ByteArray) (w : World) (hs : s.size ≤ 1000000) : Calls Tryz.prog 39 #[.string s, .func (.func 40) #[] #[]] w fun e w' => e = .returned (.string (oB (escP false s.data.toList))) ∧ Below w.heap.size w w' := by
 have hsl : s.data.toList.length = s.size := by simp
 have HSL := Lib.hid hsl
 clear hsl
 have hfr := bld_fresh w
 go_enter Tryz.func39, Tryz.ntmps39
 go_wp2
 go_loopw [6, 11] (fun cp i wr => ∃ (c k : Nat) (acc : List UInt8), c ≤ k ∧ k ≤ s.size ∧ cp = .int .i64 c ∧ i = .int .i64 k ∧ Bld w.heap.size w.heap.size acc wr ∧ Below w.heap.size w wr ∧ (escP false s.data.toList = (acc ++ (s.data.toList.drop c).take (k - c)) ++ escP false (s.data.toList.drop k) ∧ acc.length ≤ 6 * c)) (fun _ i _ => s.size - (intOf i).toNat)
 case atStart => exact ⟨0, 0, [], by omega, by omega, rfl, rfl, hfr, (Below.refl _ _).alloc (Nat.le_refl _) _, by simp, by simp⟩
 case round =>
  obtain ⟨c, k, acc, hck, hk, rfl, rfl, hB, hbel, hrel, hal⟩ := hrel
  have hz := hbel.size
  clear hfr
  by_cases hlt : k < s.size
  ·have hkl : k < s.data.toList.length := by have := HSL.out; omega
   obtain ⟨x, hx⟩ : ∃ x, s[k]'hlt = x := ⟨_, rfl⟩
   have hxl : s.data.toList[k]'hkl = x := by rw [← hx]; simp [ByteArray.getElem_eq_getElem_data]
   have htk : (s.data.toList.drop c).take (k + 1 - c) = (s.data.toList.drop c).take (k - c) ++ [x] := by
    rw [show k + 1 - c = (k - c) + 1 by omega, List.take_add_one, List.getElem?_drop, show c + (k - c) = k by omega, List.getElem?_eq_getElem hkl, hxl]; rfl
   rw [List.drop_eq_getElem_cons hkl, hxl, escP_cons, esc_rep, ← List.append_assoc] at hrel
   have hkz : (k : Int) < (s.size : Int) := by omega
   have hx8 := x.toNat_lt
   have cF : ∀ wx, _ := fun wx => esc_inText x wx
   have hrl := repB_len false x
   by_cases hr : repB false x = []
   ·rw [if_pos hr] at hrel
    rw [hr, show oB [] = (⟨#[]⟩ : ByteArray) from rfl] at cF
    have R : escP false s.data.toList = (acc ++ (s.data.toList.drop c).take (k + 1 - c)) ++ escP false (s.data.toList.drop (k + 1)) := by
     rw [htk, ← List.append_assoc]; exact hrel
    have HR := Lib.hid R
    clear R hrel htk hxl hr hrl
    obtain ⟨z, hzx⟩ : ∃ z : Int, (x.toNat : Int) = z := ⟨_, rfl⟩
    rw [hzx] at cF
    go_wp2_with fail
    refine (cF _).mono ?_
    rintro e w' ⟨rfl, rfl⟩
    go_wp2
    go_roundw
    case rel => exact ⟨c, k + 1, acc, by omega, by omega, rfl, by go_num, hB, hbel, HR.out, hal⟩
    case measure => simp [intOf]; omega
   ·rw [if_neg hr] at hrel
    have R : escP false s.data.toList = ((acc ++ (s.data.toList.drop c).take (k - c) ++ repB false x) ++ (s.data.toList.drop (k + 1)).take (k + 1 - (k + 1))) ++ escP false (s.data.toList.drop (k + 1)) := by
     rw [Nat.sub_self, List.take_zero, List.append_nil]; exact hrel
    have HR := Lib.hid R
    have hml : ((s.data.toList.drop c).take (k - c)).length ≤ k - c := List.length_take_le _ _
    have hsc : ∀ wx, _ := fun wx => slice_mid s (c : Int) (k : Int) (by omega) (by omega) (by omega) wx
    rw [Int.toNat_natCast, Int.toNat_natCast, eext] at hsc
    generalize (s.data.toList.drop c).take (k - c) = md at *
    have hne1 : (oB (repB false x)).toList.isEmpty = false := by
     rw [ByteArray.toList_eq, oBl]
     cases hh : repB false x with
     | nil => exact absurd hh hr
     | cons _ _ => rfl
    have hne2 : ¬ (oB (repB false x)).toList = [] := by rw [ByteArray.toList_eq, oBl]; exact hr
    have zm : (oB md).size = md.length := oBz md
    have zr : (oB (repB false x)).size = (repB false x).length := oBz _
    have W1 : ∀ wx, Bld w.heap.size w.heap.size acc wx → w.heap.size ≤ wx.heap.size → _ := fun wx h1 h2 => bld_WriteString w.heap.size w.heap.size acc (oB md) wx h1 (by omega) h2
    have W2 : ∀ wx, Bld w.heap.size w.heap.size (acc ++ md) wx → w.heap.size ≤ wx.heap.size → _ := fun wx h1 h2 => bld_WriteString w.heap.size w.heap.size (acc ++ md) (oB (repB false x)) wx h1 (by rw [List.length_append]; omega) h2
    rw [oBl] at W1 W2
    have hal2 : (acc ++ md ++ repB false x).length ≤ 6 * (k + 1) := by rw [List.length_append, List.length_append]; omega
    clear R hrel htk hxl hr hml zm zr hrl
    generalize acc ++ md ++ repB false x = acc3 at *
    generalize acc ++ md = acc2 at *
    generalize oB (repB false x) = RS at *
    generalize oB md = MS at *
    obtain ⟨z, hzx⟩ : ∃ z : Int, (x.toNat : Int) = z := ⟨_, rfl⟩
    rw [hzx] at cF
    go_wp2_with fail
    refine (cF _).mono ?_
    rintro e w' ⟨rfl, rfl⟩
    go_wp2_with fail
    refine (W1 _ hB hz).mono ?_
    rintro e w1 ⟨rfl, B1, b1⟩
    have z1 := b1.size
    go_wp2_with fail
    refine (W2 _ B1 (by omega)).mono ?_
    rintro e w2 ⟨rfl, B2, b2⟩
    go_wp2
    go_roundw
    case rel => exact ⟨k + 1, k + 1, _, by omega, by omega, by go_num, by go_num, B2, (hbel.trans b1).trans b2, HR.out, hal2⟩
    case measure => simp [intOf]; omega
  ·obtain rfl : k = s.size := by omega
   have hsf : ∀ wx, _ := fun wx => slice_from s (c : Int) (by omega) (by omega) wx
   rw [Int.toNat_natCast, eext] at hsf
   rw [List.drop_eq_nil_of_le (i := s.size) (by have := HSL.out; omega), show escP false [] = [] from rfl, List.append_nil] at hrel
   have hml : ((s.data.toList.drop c).take (s.size - c)).length ≤ s.size - c := List.length_take_le _ _
   generalize (s.data.toList.drop c).take (s.size - c) = md at *
   have zm : (oB md).size = md.length := oBz md
   have W1 : ∀ wx, Bld w.heap.size w.heap.size acc wx → w.heap.size ≤ wx.heap.size → _ := fun wx h1 h2 => bld_WriteString w.heap.size w.heap.size acc (oB md) wx h1 (by omega) h2
   rw [oBl] at W1
   have W2 : ∀ wx, Bld w.heap.size w.heap.size (acc ++ md) wx → w.heap.size ≤ wx.heap.size → _ := fun wx h1 h2 => bld_String w.heap.size w.heap.size (acc ++ md) wx h1 h2
   have HE := Lib.hid hrel
   clear hrel hml zm
   generalize acc ++ md = E at *
   generalize oB md = MS at *
   go_wp2_with fail
   refine (W1 _ hB hz).mono ?_
   rintro e w1 ⟨rfl, B1, b1⟩
   have z1 := b1.size
   go_wp2_with fail
   refine (W2 _ B1 (by omega)).mono ?_
   rintro e w2 ⟨rfl, B2, b2⟩
   go_wp2
   go_ret
   exact ⟨eretS (by rw [HE.out]), (hbel.trans b1).trans b2⟩
set_option maxHeartbeats 16000000 in
theorem esc_escape_true (s : ByteArray) (w : World) (hs : s.size ≤ 1000000) : Calls Tryz.prog 39 #[.string s, .func (.func 41) #[] #[]] w fun e w' => e = .returned (.string (oB (escP true s.data.toList))) ∧ Below w.heap.size w w' := by
 have hsl : s.data.toList.length = s.size := by simp
 have HSL := Lib.hid hsl
 clear hsl
 have hfr := bld_fresh w
 go_enter Tryz.func39, Tryz.ntmps39
 go_wp2
 go_loopw [6, 11] (fun cp i wr => ∃ (c k : Nat) (acc : List UInt8), c ≤ k ∧ k ≤ s.size ∧ cp = .int .i64 c ∧ i = .int .i64 k ∧ Bld w.heap.size w.heap.size acc wr ∧ Below w.heap.size w wr ∧ (escP true s.data.toList = (acc ++ (s.data.toList.drop c).take (k - c)) ++ escP true (s.data.toList.drop k) ∧ acc.length ≤ 6 * c)) (fun _ i _ => s.size - (intOf i).toNat)
 case atStart => exact ⟨0, 0, [], by omega, by omega, rfl, rfl, hfr, (Below.refl _ _).alloc (Nat.le_refl _) _, by simp, by simp⟩
 case round =>
  obtain ⟨c, k, acc, hck, hk, rfl, rfl, hB, hbel, hrel, hal⟩ := hrel
  have hz := hbel.size
  clear hfr
  by_cases hlt : k < s.size
  ·have hkl : k < s.data.toList.length := by have := HSL.out; omega
   obtain ⟨x, hx⟩ : ∃ x, s[k]'hlt = x := ⟨_, rfl⟩
   have hxl : s.data.toList[k]'hkl = x := by rw [← hx]; simp [ByteArray.getElem_eq_getElem_data]
   have htk : (s.data.toList.drop c).take (k + 1 - c) = (s.data.toList.drop c).take (k - c) ++ [x] := by
    rw [show k + 1 - c = (k - c) + 1 by omega, List.take_add_one, List.getElem?_drop, show c + (k - c) = k by omega, List.getElem?_eq_getElem hkl, hxl]; rfl
   rw [List.drop_eq_getElem_cons hkl, hxl, escP_cons, esc_rep, ← List.append_assoc] at hrel
   have hkz : (k : Int) < (s.size : Int) := by omega
   have hx8 := x.toNat_lt
   have cF : ∀ wx, _ := fun wx => esc_inAttr x wx
   have hrl := repB_len true x
   by_cases hr : repB true x = []
   ·rw [if_pos hr] at hrel
    rw [hr, show oB [] = (⟨#[]⟩ : ByteArray) from rfl] at cF
    have R : escP true s.data.toList = (acc ++ (s.data.toList.drop c).take (k + 1 - c)) ++ escP true (s.data.toList.drop (k + 1)) := by
     rw [htk, ← List.append_assoc]; exact hrel
    have HR := Lib.hid R
    clear R hrel htk hxl hr hrl
    obtain ⟨z, hzx⟩ : ∃ z : Int, (x.toNat : Int) = z := ⟨_, rfl⟩
    rw [hzx] at cF
    go_wp2_with fail
    refine (cF _).mono ?_
    rintro e w' ⟨rfl, rfl⟩
    go_wp2
    go_roundw
    case rel => exact ⟨c, k + 1, acc, by omega, by omega, rfl, by go_num, hB, hbel, HR.out, hal⟩
    case measure => simp [intOf]; omega
   ·rw [if_neg hr] at hrel
    have R : escP true s.data.toList = ((acc ++ (s.data.toList.drop c).take (k - c) ++ repB true x) ++ (s.data.toList.drop (k + 1)).take (k + 1 - (k + 1))) ++ escP true (s.data.toList.drop (k + 1)) := by
     rw [Nat.sub_self, List.take_zero, List.append_nil]; exact hrel
    have HR := Lib.hid R
    have hml : ((s.data.toList.drop c).take (k - c)).length ≤ k - c := List.length_take_le _ _
    have hsc : ∀ wx, _ := fun wx => slice_mid s (c : Int) (k : Int) (by omega) (by omega) (by omega) wx
    rw [Int.toNat_natCast, Int.toNat_natCast, eext] at hsc
    generalize (s.data.toList.drop c).take (k - c) = md at *
    have hne1 : (oB (repB true x)).toList.isEmpty = false := by
     rw [ByteArray.toList_eq, oBl]
     cases hh : repB true x with
     | nil => exact absurd hh hr
     | cons _ _ => rfl
    have hne2 : ¬ (oB (repB true x)).toList = [] := by rw [ByteArray.toList_eq, oBl]; exact hr
    have zm : (oB md).size = md.length := oBz md
    have zr : (oB (repB true x)).size = (repB true x).length := oBz _
    have W1 : ∀ wx, Bld w.heap.size w.heap.size acc wx → w.heap.size ≤ wx.heap.size → _ := fun wx h1 h2 => bld_WriteString w.heap.size w.heap.size acc (oB md) wx h1 (by omega) h2
    have W2 : ∀ wx, Bld w.heap.size w.heap.size (acc ++ md) wx → w.heap.size ≤ wx.heap.size → _ := fun wx h1 h2 => bld_WriteString w.heap.size w.heap.size (acc ++ md) (oB (repB true x)) wx h1 (by rw [List.length_append]; omega) h2
    rw [oBl] at W1 W2
    have hal2 : (acc ++ md ++ repB true x).length ≤ 6 * (k + 1) := by rw [List.length_append, List.length_append]; omega
    clear R hrel htk hxl hr hml zm zr hrl
    generalize acc ++ md ++ repB true x = acc3 at *
    generalize acc ++ md = acc2 at *
    generalize oB (repB true x) = RS at *
    generalize oB md = MS at *
    obtain ⟨z, hzx⟩ : ∃ z : Int, (x.toNat : Int) = z := ⟨_, rfl⟩
    rw [hzx] at cF
    go_wp2_with fail
    refine (cF _).mono ?_
    rintro e w' ⟨rfl, rfl⟩
    go_wp2_with fail
    refine (W1 _ hB hz).mono ?_
    rintro e w1 ⟨rfl, B1, b1⟩
    have z1 := b1.size
    go_wp2_with fail
    refine (W2 _ B1 (by omega)).mono ?_
    rintro e w2 ⟨rfl, B2, b2⟩
    go_wp2
    go_roundw
    case rel => exact ⟨k + 1, k + 1, _, by omega, by omega, by go_num, by go_num, B2, (hbel.trans b1).trans b2, HR.out, hal2⟩
    case measure => simp [intOf]; omega
  ·obtain rfl : k = s.size := by omega
   have hsf : ∀ wx, _ := fun wx => slice_from s (c : Int) (by omega) (by omega) wx
   rw [Int.toNat_natCast, eext] at hsf
   rw [List.drop_eq_nil_of_le (i := s.size) (by have := HSL.out; omega), show escP true [] = [] from rfl, List.append_nil] at hrel
   have hml : ((s.data.toList.drop c).take (s.size - c)).length ≤ s.size - c := List.length_take_le _ _
   generalize (s.data.toList.drop c).take (s.size - c) = md at *
   have zm : (oB md).size = md.length := oBz md
   have W1 : ∀ wx, Bld w.heap.size w.heap.size acc wx → w.heap.size ≤ wx.heap.size → _ := fun wx h1 h2 => bld_WriteString w.heap.size w.heap.size acc (oB md) wx h1 (by omega) h2
   rw [oBl] at W1
   have W2 : ∀ wx, Bld w.heap.size w.heap.size (acc ++ md) wx → w.heap.size ≤ wx.heap.size → _ := fun wx h1 h2 => bld_String w.heap.size w.heap.size (acc ++ md) wx h1 h2
   have HE := Lib.hid hrel
   clear hrel hml zm
   generalize acc ++ md = E at *
   generalize oB md = MS at *
   go_wp2_with fail
   refine (W1 _ hB hz).mono ?_
   rintro e w1 ⟨rfl, B1, b1⟩
   have z1 := b1.size
   go_wp2_with fail
   refine (W2 _ B1 (by omega)).mono ?_
   rintro e w2 ⟨rfl, B2, b2⟩
   go_wp2
   go_ret
   exact ⟨eretS (by rw [HE.out]), (hbel.trans b1).trans b2⟩
theorem enc_eb (r : Int) (h : isCharB r = true) : Lib.encodeRune r = eb r := by
 have h := of_decide_eq_true h
 have hn : ¬ (r < 0 ∨ 1114111 < r ∨ (55296 ≤ r ∧ r ≤ 57343)) := by omega
 have he : Lib.encodeRuneZ r = encZ r := by
  unfold encZ
  rw [if_neg hn]
  by_cases h1 : r < 128
  ·rw [if_pos h1, Lib.encodeRuneZ_one (by omega) (by omega)]
  ·rw [if_neg h1]
   by_cases h2 : r < 2048
   ·rw [if_pos h2, Lib.encodeRuneZ_two (by omega) (by omega)]
   ·rw [if_neg h2]
    by_cases h3 : r < 65536
    ·rw [if_pos h3, Lib.encodeRuneZ_three (by omega)]
    ·rw [if_neg h3, Lib.encodeRuneZ_four (by omega) (by omega)]
 unfold Lib.encodeRune eb
 rw [he]
end
end Go.Proofs.YtppmoeidgefkpaaGreatDoor
