/- Packed from the texts EscC. -/
import Derived.Test.YtppmoeidgefkpaaGreatDoorWEscB
import Derived.Test.YtppmoeidgefkpaaGreatDoorWStrK
import Derived.Test.YtppmoeidgefkpaaGreatDoorWTextR
set_option maxRecDepth 100000
namespace Go.Proofs.YtppmoeidgefkpaaGreatDoor
section
open Go.RowKit
def tw (l : List UInt8) : List UInt8 := l.takeWhile fun c => c != 59
theorem tw_cons (c : UInt8) (r : List UInt8) (h : c ≠ 59) : tw (c :: r) = c :: tw r := by unfold tw; rw [List.takeWhile_cons, if_pos (by simpa using h)]
theorem tw_semi (r : List UInt8) : tw (59 :: r) = [] := rfl
def refNum (x : List UInt8) : Int := if 1 < x.length ∧ x.getD 0 0 = 35 then (if x.getD 1 0 = 120 then numB 16 (x.drop 2) else numB 10 (x.drop 1)) else namedP x
theorem refNum_bd (x : List UInt8) : -1 ≤ refNum x ∧ refNum x ≤ 2000000 := by
 unfold refNum
 split
 ·split
  ·exact numB_bd 16 (by omega) _
  ·exact numB_bd 10 (by omega) _
 ·have := namedP_bd x; omega
def refAt (l : List UInt8) (i : Nat) : Int × Int × Int :=
 if i + 1 + (tw (l.drop (i + 1))).length < l.length then (if isCharB (refNum (tw (l.drop (i + 1)))) then (refNum (tw (l.drop (i + 1))), ((i + 1 + (tw (l.drop (i + 1))).length + 1 : Nat) : Int), 0) else (0, 0, 12)) else (0, 0, 12)
def refP (l : List UInt8) (a : Int) : Int × Int × Int := if 0 ≤ a ∧ a < (l.length : Int) ∧ l.getD a.toNat 0 = 38 then refAt l a.toNat else (0, 0, 12)
theorem estr_ext {a b : ByteArray} (h : a.data.toList = b.data.toList) : a = b := by
 cases a; cases b; simp at h; simp [h]
theorem eext (s : ByteArray) (f k : Nat) : s.extract f k = oB ((s.data.toList.drop f).take (k - f)) := by
 apply estr_ext
 rw [oBl]
 simp only [ByteArray.data_extract, Array.toList_extract, List.extract_eq_take_drop]
theorem eob_get (w : List UInt8) (i : Nat) (h : i < (oB w).size) : (oB w)[i]'h = w.getD i 0 := by
 rw [oBz] at h
 simp [oB, ByteArray.getElem_eq_getElem_data, List.getD, h]
theorem eu8_int {a : UInt8} {n : Nat} (hn : n < 256) : a = UInt8.ofNat n ↔ (a.toNat : Int) = n := by
 constructor
 ·intro h; rw [h, UInt8.toNat_ofNat']; omega
 ·intro h; apply UInt8.toNat_inj.1; rw [UInt8.toNat_ofNat']; omega
set_option maxHeartbeats 8000000 in
theorem eref_Reference (s : ByteArray) (a : Int) (w : World) (hs : s.size ≤ 1000000) :
  Calls Tryz.prog 100 #[.string s, .int .i64 a] w fun e w' => e = .returned (.tuple #[.int .i64 (refP s.data.toList a).1, .int .i64 (refP s.data.toList a).2.1, .int .i64 (refP s.data.toList a).2.2]) ∧ w = w' := by
 have hsl : s.data.toList.length = s.size := by simp
 by_cases hin : 0 ≤ a ∧ a < (s.size : Int)
 ·obtain ⟨i, rfl⟩ := Int.eq_ofNat_of_zero_le hin.1
  have hlt : i < s.size := by omega
  have hkl : i < s.data.toList.length := by omega
  obtain ⟨x, hx⟩ : ∃ x, s[i]'hlt = x := ⟨_, rfl⟩
  have hxl : s.data.toList[i]'hkl = x := by rw [← hx]; simp [ByteArray.getElem_eq_getElem_data]
  have hgd : s.data.toList.getD i 0 = x := by rw [List.getD_eq_getElem?_getD, List.getElem?_eq_getElem hkl, hxl]; rfl
  have hi0 : ¬ (i : Int) < 0 := by omega
  have hi1 : ¬ (s.size : Int) ≤ (i : Int) := by omega
  have hiz : (i : Int) < (s.size : Int) := by omega
  by_cases hamp : x = 38
  ·subst hamp
   have hP0 : refP s.data.toList (i : Int) = refAt s.data.toList i := by unfold refP; rw [Int.toNat_natCast, hgd, if_pos ⟨by omega, by omega, rfl⟩]
   have htw : tw (s.data.toList.drop i) = 38 :: tw (s.data.toList.drop (i + 1)) := by rw [List.drop_eq_getElem_cons hkl, hxl, tw_cons _ _ (by decide)]
   rw [hP0]
   have HSL := Lib.hid hsl
   have HTW := Lib.hid htw
   clear hsl hgd hP0 htw
   go_enter Tryz.func100, Tryz.ntmps100
   go_wp2
   go_loop [7] (fun q => ∃ k : Nat, i ≤ k ∧ k ≤ s.size ∧ q = .int .i64 k ∧ tw (s.data.toList.drop i) = (s.data.toList.drop i).take (k - i) ++ tw (s.data.toList.drop k)) (fun q => s.size - (intOf q).toNat)
   case atStart => exact ⟨i, Nat.le_refl _, by omega, rfl, by simp⟩
   case round =>
    obtain ⟨k, hik, hks, rfl, hrel⟩ := hrel
    by_cases hk : k < s.size
    ·have hkl2 : k < s.data.toList.length := by have := HSL.out; omega
     obtain ⟨y, hy⟩ : ∃ y, s[k]'hk = y := ⟨_, rfl⟩
     have hyl : s.data.toList[k]'hkl2 = y := by rw [← hy]; simp [ByteArray.getElem_eq_getElem_data]
     by_cases h59 : y = 59
     ·subst h59
      have hX : tw (s.data.toList.drop (i + 1)) = (s.data.toList.drop (i + 1)).take (k - (i + 1)) ∧ i + 1 ≤ k := by
       rw [List.drop_eq_getElem_cons hkl2, hyl, tw_semi, List.append_nil, HTW.out, List.drop_eq_getElem_cons hkl, hxl] at hrel
       have hik2 : i + 1 ≤ k := by
        rcases Nat.lt_or_ge i k with h | h
        ·exact h
        ·rw [show k - i = 0 by omega, List.take_zero] at hrel; cases hrel
       rw [show k - i = (k - (i + 1)) + 1 by omega, List.take_succ_cons] at hrel
       exact ⟨(List.cons.inj hrel).2, hik2⟩
      obtain ⟨hX, hik2⟩ := hX
      have hXl : (tw (s.data.toList.drop (i + 1))).length = k - (i + 1) := by rw [hX, List.length_take, List.length_drop]; have := HSL.out; omega
      have hP : refAt s.data.toList i = if isCharB (refNum (tw (s.data.toList.drop (i + 1)))) then (refNum (tw (s.data.toList.drop (i + 1))), (k : Int) + 1, 0) else (0, 0, 12) := by
       unfold refAt
       rw [if_pos (by rw [hXl]; have := HSL.out; omega), hXl, show ((i + 1 + (k - (i + 1)) + 1 : Nat) : Int) = (k : Int) + 1 by omega]
      have hsc : ∀ wx, _ := fun wx => slice_mid s ((i : Int) + 1) (k : Int) (by omega) (by omega) (by omega) wx
      rw [show ((i : Int) + 1).toNat = i + 1 by omega, Int.toNat_natCast, eext, ← hX] at hsc
      generalize tw (s.data.toList.drop (i + 1)) = X at *
      have hkz : (k : Int) < (s.size : Int) := by omega
      have hkz2 : ¬ ((k : Int) = (s.size : Int)) := by omega
      have hki : (k : Int) ≤ 1000000 := by omega
      have hi6 : (i : Int) ≤ 1000000 := by omega
      have hXs : X.length ≤ 1000000 := by omega
      clear hrel hX hXl hyl hx hxl
      have cN : ∀ wx, _ := fun wx => eref_named (oB X) wx
      rw [oBl] at cN
      have hnb := namedP_bd X
      have hSz : (oB X).size = X.length := oBz X
      by_cases hl1 : 1 < X.length
      ·obtain ⟨c0, c1, r, rfl⟩ : ∃ c0 c1 r, X = c0 :: c1 :: r := by
        match X, hl1 with
        | c0 :: c1 :: r, _ => exact ⟨c0, c1, r, rfl⟩
       have hrn : refNum (c0 :: c1 :: r) = if c0 = 35 then (if c1 = 120 then numB 16 r else numB 10 (c1 :: r)) else namedP (c0 :: c1 :: r) := by
        unfold refNum
        by_cases h : c0 = 35
        ·rw [if_pos ⟨hl1, h⟩, if_pos h]; rfl
        ·rw [if_neg (fun q => h q.2), if_neg h]
       have hS0 : ∀ h : 0 < (oB (c0 :: c1 :: r)).size, (oB (c0 :: c1 :: r))[0]'h = c0 := fun h => eob_get _ _ h
       have hS1 : ∀ h : 1 < (oB (c0 :: c1 :: r)).size, (oB (c0 :: c1 :: r))[1]'h = c1 := fun h => eob_get _ _ h
       have hl1z : (1 : Int) < ((oB (c0 :: c1 :: r)).size : Int) := by omega
       have hl1y : ((oB (c0 :: c1 :: r)).size : Int) ≤ 1000000 := by omega
       have s1 : ∀ wx, _ := fun wx => slice_from (oB (c0 :: c1 :: r)) 1 (by omega) (by omega) wx
       have s2 : ∀ wx, _ := fun wx => slice_from (oB (c0 :: c1 :: r)) 2 (by omega) (by omega) wx
       rw [show (1 : Int).toNat = 1 from rfl, eext, oBl, hSz, List.take_of_length_le (by rw [List.length_drop]; omega)] at s1
       rw [show (2 : Int).toNat = 2 from rfl, eext, oBl, hSz, List.take_of_length_le (by rw [List.length_drop]; omega)] at s2
       change ∀ wx, _ = Result.ok (Value.string (oB (c1 :: r))) wx at s1
       change ∀ wx, _ = Result.ok (Value.string (oB r)) wx at s2
       have k1 : ∀ wx, _ := fun wx => eref_number (oB (c1 :: r)) 10 wx (by rw [oBz]; rw [List.length_cons] at hXs; omega) (.inl rfl)
       have k2 : ∀ wx, _ := fun wx => eref_number (oB r) 16 wx (by rw [oBz]; rw [List.length_cons, List.length_cons] at hXs; omega) (.inr rfl)
       rw [oBl] at k1 k2
       rw [hrn] at hP
       have hn1 := numB_bd 10 (by omega) (c1 :: r)
       have hn2 := numB_bd 16 (by omega) r
       generalize namedP (c0 :: c1 :: r) = n0 at *
       generalize numB 10 (c1 :: r) = n1 at *
       generalize numB 16 r = n2 at *
       generalize oB (c0 :: c1 :: r) = S at *
       generalize oB (c1 :: r) = S1 at *
       generalize oB r = S2 at *
       clear hrn hXs hl1 hSz
       by_cases h35 : c0 = 35
       ·subst h35
        rw [if_pos rfl] at hP
        by_cases h120 : c1 = 120
        ·subst h120
         rw [if_pos rfl] at hP
         have cI : ∀ wx, _ := fun wx => ref_IsChar n2 wx
         rcases hic : isCharB n2 with _ | _
         ·rw [hic] at cI
          have HQ := Lib.hid (hP.trans (if_neg (by rw [hic]; decide)))
          clear hP hic
          (go_wp2_with fail); (refine (cN _).mono ?_); (rintro e w' ⟨rfl, rfl⟩); (go_wp2_with fail); (refine (k1 _).mono ?_); (rintro e w' ⟨rfl, rfl⟩); (go_wp2_with fail); (refine (k2 _).mono ?_); (rintro e w' ⟨rfl, rfl⟩)
          (go_wp2_with fail); (refine (cI _).mono ?_); (rintro e w' ⟨rfl, rfl⟩)
          go_wp2
          exact bodyPost_ret (v := .tuple #[.int .i64 0, .int .i64 0, .int .i64 12]) (by simp [results, Tryz.results100, go_sem]) rfl ⟨by rw [HQ.out], rfl⟩
         ·rw [hic] at cI
          have HQ := Lib.hid (hP.trans (if_pos hic))
          clear hP hic
          (go_wp2_with fail); (refine (cN _).mono ?_); (rintro e w' ⟨rfl, rfl⟩); (go_wp2_with fail); (refine (k1 _).mono ?_); (rintro e w' ⟨rfl, rfl⟩); (go_wp2_with fail); (refine (k2 _).mono ?_); (rintro e w' ⟨rfl, rfl⟩)
          (go_wp2_with fail); (refine (cI _).mono ?_); (rintro e w' ⟨rfl, rfl⟩)
          go_wp2
          exact bodyPost_ret (v := .tuple #[.int .i64 n2, .int .i64 ((k : Int) + 1), .int .i64 0]) (by simp [results, Tryz.results100, go_sem]) rfl ⟨by rw [HQ.out], rfl⟩
        ·rw [if_neg h120] at hP
         have hb120 : ((c1.toNat : Int) == 120) = false := by
          have : ¬ ((c1.toNat : Int) = 120) := fun h => h120 ((eu8_int (n := 120) (by omega)).2 h)
          simpa using this
         clear h120
         have cI : ∀ wx, _ := fun wx => ref_IsChar n1 wx
         rcases hic : isCharB n1 with _ | _
         ·rw [hic] at cI
          have HQ := Lib.hid (hP.trans (if_neg (by rw [hic]; decide)))
          clear hP hic
          (go_wp2_with fail); (refine (cN _).mono ?_); (rintro e w' ⟨rfl, rfl⟩); (go_wp2_with fail); (refine (k1 _).mono ?_); (rintro e w' ⟨rfl, rfl⟩)
          (go_wp2_with fail); (refine (cI _).mono ?_); (rintro e w' ⟨rfl, rfl⟩)
          go_wp2
          exact bodyPost_ret (v := .tuple #[.int .i64 0, .int .i64 0, .int .i64 12]) (by simp [results, Tryz.results100, go_sem]) rfl ⟨by rw [HQ.out], rfl⟩
         ·rw [hic] at cI
          have HQ := Lib.hid (hP.trans (if_pos hic))
          clear hP hic
          (go_wp2_with fail); (refine (cN _).mono ?_); (rintro e w' ⟨rfl, rfl⟩); (go_wp2_with fail); (refine (k1 _).mono ?_); (rintro e w' ⟨rfl, rfl⟩)
          (go_wp2_with fail); (refine (cI _).mono ?_); (rintro e w' ⟨rfl, rfl⟩)
          go_wp2
          exact bodyPost_ret (v := .tuple #[.int .i64 n1, .int .i64 ((k : Int) + 1), .int .i64 0]) (by simp [results, Tryz.results100, go_sem]) rfl ⟨by rw [HQ.out], rfl⟩
       ·rw [if_neg h35] at hP
        have hb35 : ((c0.toNat : Int) == 35) = false := by
         have : ¬ ((c0.toNat : Int) = 35) := fun h => h35 ((eu8_int (n := 35) (by omega)).2 h)
         simpa using this
        clear h35
        have cI : ∀ wx, _ := fun wx => ref_IsChar n0 wx
        rcases hic : isCharB n0 with _ | _
        ·rw [hic] at cI
         have HQ := Lib.hid (hP.trans (if_neg (by rw [hic]; decide)))
         clear hP hic
         (go_wp2_with fail); (refine (cN _).mono ?_); (rintro e w' ⟨rfl, rfl⟩)
         (go_wp2_with fail); (refine (cI _).mono ?_); (rintro e w' ⟨rfl, rfl⟩)
         go_wp2
         exact bodyPost_ret (v := .tuple #[.int .i64 0, .int .i64 0, .int .i64 12]) (by simp [results, Tryz.results100, go_sem]) rfl ⟨by rw [HQ.out], rfl⟩
        ·rw [hic] at cI
         have HQ := Lib.hid (hP.trans (if_pos hic))
         clear hP hic
         (go_wp2_with fail); (refine (cN _).mono ?_); (rintro e w' ⟨rfl, rfl⟩)
         (go_wp2_with fail); (refine (cI _).mono ?_); (rintro e w' ⟨rfl, rfl⟩)
         go_wp2
         exact bodyPost_ret (v := .tuple #[.int .i64 n0, .int .i64 ((k : Int) + 1), .int .i64 0]) (by simp [results, Tryz.results100, go_sem]) rfl ⟨by rw [HQ.out], rfl⟩
      ·have hrn : refNum X = namedP X := by unfold refNum; rw [if_neg (fun q => hl1 q.1)]
       have hl1z : ¬ (1 : Int) < ((oB X).size : Int) := by omega
       rw [hrn] at hP
       generalize namedP X = n0 at *
       generalize oB X = S at *
       clear hrn hl1 hSz hXs
       have cI : ∀ wx, _ := fun wx => ref_IsChar n0 wx
       rcases hic : isCharB n0 with _ | _
       ·rw [hic] at cI
        have HQ := Lib.hid (hP.trans (if_neg (by rw [hic]; decide)))
        clear hP hic
        (go_wp2_with fail); (refine (cN _).mono ?_); (rintro e w' ⟨rfl, rfl⟩)
        (go_wp2_with fail); (refine (cI _).mono ?_); (rintro e w' ⟨rfl, rfl⟩)
        go_wp2
        exact bodyPost_ret (v := .tuple #[.int .i64 0, .int .i64 0, .int .i64 12]) (by simp [results, Tryz.results100, go_sem]) rfl ⟨by rw [HQ.out], rfl⟩
       ·rw [hic] at cI
        have HQ := Lib.hid (hP.trans (if_pos hic))
        clear hP hic
        (go_wp2_with fail); (refine (cN _).mono ?_); (rintro e w' ⟨rfl, rfl⟩)
        (go_wp2_with fail); (refine (cI _).mono ?_); (rintro e w' ⟨rfl, rfl⟩)
        go_wp2
        exact bodyPost_ret (v := .tuple #[.int .i64 n0, .int .i64 ((k : Int) + 1), .int .i64 0]) (by simp [results, Tryz.results100, go_sem]) rfl ⟨by rw [HQ.out], rfl⟩
     ·have hn59 : ¬ ((y.toNat : Int) = 59) := fun h => h59 ((eu8_int (n := 59) (by omega)).2 h)
      have hbn : ((y.toNat : Int) != 59) = true := by simpa using hn59
      have R : tw (s.data.toList.drop i) = (s.data.toList.drop i).take (k + 1 - i) ++ tw (s.data.toList.drop (k + 1)) := by
       rw [hrel, List.drop_eq_getElem_cons hkl2, hyl, tw_cons _ _ h59, show k + 1 - i = (k - i) + 1 by omega, List.take_add_one, List.getElem?_drop, show i + (k - i) = k by omega, List.getElem?_eq_getElem hkl2, hyl]
       simp
      have HR := Lib.hid R
      have hkz : (k : Int) < (s.size : Int) := by omega
      clear R hrel hyl h59 hn59 hx hxl
      go_wp2
      go_round
      case rel => exact ⟨k + 1, by omega, by omega, by go_num, HR.out⟩
      case measure => simp [intOf]; omega
    ·obtain rfl : k = s.size := by omega
     have hP : refAt s.data.toList i = (0, 0, 12) := by
      rw [List.drop_eq_nil_of_le (i := s.size) (by have := HSL.out; omega), show tw [] = [] from rfl, List.append_nil, HTW.out] at hrel
      have := congrArg List.length hrel
      rw [List.length_cons, List.length_take, List.length_drop] at this
      unfold refAt
      rw [if_neg (by have := HSL.out; omega)]
     have HQ := Lib.hid hP
     clear hP hrel hx hxl
     go_wp2
     exact bodyPost_ret (v := .tuple #[.int .i64 0, .int .i64 0, .int .i64 12]) (by simp [results, Tryz.results100, go_sem]) rfl ⟨by rw [HQ.out], rfl⟩
  ·have hP0 : refP s.data.toList (i : Int) = (0, 0, 12) := by unfold refP; rw [Int.toNat_natCast, hgd, if_neg (fun h => hamp h.2.2)]
   have hne : ((x.toNat : Int) != 38) = true := by
    have : ¬ ((x.toNat : Int) = 38) := fun h => hamp ((eu8_int (n := 38) (by omega)).2 h)
    simpa using this
   have HQ := Lib.hid hP0
   clear hP0 hgd hxl hsl hamp
   go_enter Tryz.func100, Tryz.ntmps100
   go_wp2
   exact bodyPost_ret (v := .tuple #[.int .i64 0, .int .i64 0, .int .i64 12]) (by simp [results, Tryz.results100, go_sem]) rfl ⟨by rw [HQ.out], rfl⟩
 ·have hP0 : refP s.data.toList a = (0, 0, 12) := by unfold refP; rw [if_neg (fun h => hin ⟨h.1, by rw [hsl] at h; exact h.2.1⟩)]
  have HQ := Lib.hid hP0
  have hor : a < 0 ∨ (0 ≤ a ∧ (s.size : Int) ≤ a) := by omega
  clear hP0 hsl hin
  rcases hor with h | ⟨h, g⟩
  all_goals
   go_enter Tryz.func100, Tryz.ntmps100
   go_wp2
   exact bodyPost_ret (v := .tuple #[.int .i64 0, .int .i64 0, .int .i64 12]) (by simp [results, Tryz.results100, go_sem]) rfl ⟨by rw [HQ.out], rfl⟩
def eb (r : Int) : List UInt8 := (encZ r).map fun n => UInt8.ofNat n.toNat
theorem eb_str (r : Int) : strOfNums (encZ r) = oB (eb r) := by
 apply estr_ext
 rw [strOfNums_data, oBl]; rfl
theorem eb_len (r : Int) : (eb r).length ≤ 4 := by
 unfold eb encZ
 rw [List.length_map]
 repeat' split
 all_goals simp
theorem refAt_cases (l : List UInt8) (i : Nat) : refAt l i = (0, 0, 12) ∨ ∃ (r : Int) (j : Nat), refAt l i = (r, (j : Int), 0) ∧ i + 2 ≤ j ∧ j ≤ l.length ∧ isCharB r = true ∧ -1 ≤ r ∧ r ≤ 2000000 := by
 unfold refAt
 have hb := refNum_bd (tw (l.drop (i + 1)))
 split
 ·split
  ·rename_i h1 h2
   exact .inr ⟨_, _, rfl, by omega, by omega, h2, hb.1, hb.2⟩
  ·exact .inl rfl
 ·exact .inl rfl
theorem refP_at (l : List UInt8) (i : Nat) (h : i < l.length) (hc : l.getD i 0 = 38) : refP l (i : Int) = refAt l i := by
 unfold refP; rw [Int.toNat_natCast, if_pos ⟨by omega, by omega, hc⟩]
theorem eob_app (a b : List UInt8) : oB a ++ oB b = oB (a ++ b) := by
 apply estr_ext
 simp [oB]
theorem tw_app : ∀ (b r : List UInt8), (b.all fun c => c != 59) = true → tw (b ++ 59 :: r) = b
 | [], r, _ => rfl
 | c :: b, r, h => by
  rw [List.all_cons, Bool.and_eq_true] at h
  rw [List.cons_append, tw_cons _ _ (by simpa using h.1), tw_app b r h.2]
theorem refAt_ent (pre body r : List UInt8) (hb : (body.all fun c => c != 59) = true) : refAt (pre ++ 38 :: (body ++ 59 :: r)) pre.length =
  if isCharB (refNum body) then (refNum body, ((pre.length + body.length + 2 : Nat) : Int), 0) else (0, 0, 12) := by
 have hd : (pre ++ 38 :: (body ++ 59 :: r)).drop (pre.length + 1) = body ++ 59 :: r := by
  rw [← List.drop_drop, List.drop_left]; rfl
 unfold refAt
 rw [hd, tw_app body r hb, if_pos (by simp; omega), show ((pre.length + 1 + body.length + 1 : Nat) : Int) = ((pre.length + body.length + 2 : Nat) : Int) by omega]
theorem esc_cases (attr : Bool) (c : UInt8) : (escB attr c = [c] ∧ c ≠ 38) ∨ ∃ body, escB attr c = 38 :: (body ++ [59]) ∧ (body.all fun c => c != 59) = true ∧ refNum body = (c.toNat : Int) ∧ isCharB (c.toNat : Int) = true ∧ eb (c.toNat : Int) = [c] := by
 unfold escB
 have key : ∀ k : UInt8, c.toNat = k.toNat → c = k := fun k h => UInt8.toNat_inj.1 h
 by_cases h1 : c.toNat = 38
 ·obtain rfl := key 38 h1
  exact .inr ⟨[97, 109, 112], by rw [if_pos h1]; rfl, by decide⟩
 rw [if_neg h1]
 by_cases h2 : c.toNat = 60
 ·obtain rfl := key 60 h2
  exact .inr ⟨[108, 116], by rw [if_pos h2]; rfl, by decide⟩
 rw [if_neg h2]
 by_cases h3 : c.toNat = 62
 ·obtain rfl := key 62 h3
  exact .inr ⟨[103, 116], by rw [if_pos h3]; rfl, by decide⟩
 rw [if_neg h3]
 by_cases h4 : c.toNat = 13
 ·obtain rfl := key 13 h4
  exact .inr ⟨[35, 49, 51], by rw [if_pos h4]; rfl, by decide⟩
 rw [if_neg h4]
 have hn : c ≠ 38 := fun e => h1 (by rw [e]; rfl)
 by_cases h5 : (attr && c.toNat == 34) = true
 ·rw [if_pos h5]
  rw [Bool.and_eq_true, beq_iff_eq] at h5
  obtain rfl := key 34 h5.2
  exact .inr ⟨[113, 117, 111, 116], rfl, by decide⟩
 rw [if_neg h5]
 by_cases h6 : (attr && c.toNat == 9) = true
 ·rw [if_pos h6]
  rw [Bool.and_eq_true, beq_iff_eq] at h6
  obtain rfl := key 9 h6.2
  exact .inr ⟨[35, 57], rfl, by decide⟩
 rw [if_neg h6]
 by_cases h7 : (attr && c.toNat == 10) = true
 ·rw [if_pos h7]
  rw [Bool.and_eq_true, beq_iff_eq] at h7
  obtain rfl := key 10 h7.2
  exact .inr ⟨[35, 49, 48], rfl, by decide⟩
 rw [if_neg h7]
 exact .inl ⟨rfl, hn⟩
theorem esc_none (attr : Bool) (k : UInt8) (hk : ∀ c : UInt8, k ∉ escB attr c) : ∀ l : List UInt8, k ∉ escP attr l
 | [] => by simp [escP]
 | c :: r => by
  rw [escP_cons, List.mem_append]
  rintro (h | h)
  ·exact hk c h
  ·exact esc_none attr k hk r h
theorem esc_bytes : ∀ n : Fin 256, (60 ∉ escB false (UInt8.ofNat n.val) ∧ 62 ∉ escB false (UInt8.ofNat n.val) ∧ 13 ∉ escB false (UInt8.ofNat n.val)) ∧ (60 ∉ escB true (UInt8.ofNat n.val) ∧ 62 ∉ escB true (UInt8.ofNat n.val) ∧ 13 ∉ escB true (UInt8.ofNat n.val) ∧ 34 ∉ escB true (UInt8.ofNat n.val) ∧ 10 ∉ escB true (UInt8.ofNat n.val)) := by decide
theorem esc_byte (c : UInt8) : (60 ∉ escB false c ∧ 62 ∉ escB false c ∧ 13 ∉ escB false c) ∧ (60 ∉ escB true c ∧ 62 ∉ escB true c ∧ 13 ∉ escB true c ∧ 34 ∉ escB true c ∧ 10 ∉ escB true c) := by
 have := esc_bytes ⟨c.toNat, c.toNat_lt⟩
 simpa using this
theorem esc_free (l : List UInt8) : (60 ∉ escP false l ∧ 62 ∉ escP false l ∧ 13 ∉ escP false l) ∧ (60 ∉ escP true l ∧ 62 ∉ escP true l ∧ 13 ∉ escP true l ∧ 34 ∉ escP true l ∧ 10 ∉ escP true l) :=
 ⟨⟨esc_none _ _ (fun c => (esc_byte c).1.1) l, esc_none _ _ (fun c => (esc_byte c).1.2.1) l, esc_none _ _ (fun c => (esc_byte c).1.2.2) l⟩,
  esc_none _ _ (fun c => (esc_byte c).2.1) l, esc_none _ _ (fun c => (esc_byte c).2.2.1) l, esc_none _ _ (fun c => (esc_byte c).2.2.2.1) l, esc_none _ _ (fun c => (esc_byte c).2.2.2.2.1) l, esc_none _ _ (fun c => (esc_byte c).2.2.2.2.2) l⟩
end
end Go.Proofs.YtppmoeidgefkpaaGreatDoor
