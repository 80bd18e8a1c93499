/- Packed from the texts TokA. -/
import Derived.Test.YtppmoeidgefkpaaGreatDoorWKit
import Derived.Test.YtppmoeidgefkpaaGreatDoorWStrK
import Derived.Test.YtppmoeidgefkpaaGreatDoorWTextA
import Derived.Test.YtppmoeidgefkpaaGreatDoorWTextC
import Derived.Test.YtppmoeidgefkpaaGreatDoorWTextU
import Derived.Test.YtppmoeidgefkpaaGreatDoorChecked
import Derived.Lib.Index
set_option maxRecDepth 100000
namespace Go.Proofs.YtppmoeidgefkpaaGreatDoor
section
open Go.RowKit
theorem kretI {k : IntKind} {a b : Int} (h : a = b) : Ending.returned (.int k a) = .returned (.int k b) := by rw [h]
theorem kretB {a b : Bool} (h : a = b) : Ending.returned (.bool a) = .returned (.bool b) := by rw [h]
theorem kstr_ext {a b : ByteArray} (h : a.data.toList = b.data.toList) : a = b := by
 cases a; cases b; simp at h; simp [h]
theorem kext (s : ByteArray) (f k : Nat) : s.extract f k = oB ((s.data.toList.drop f).take (k - f)) := by
 apply kstr_ext
 rw [oBl]
 simp only [ByteArray.data_extract, Array.toList_extract, List.extract_eq_take_drop]
theorem ktl (l : List UInt8) : (oB l).toList = l := by rw [ByteArray.toList_eq, oBl]
def hasP (l : List UInt8) (a : Int) (t : List UInt8) : Bool := decide (0 ≤ a) && t.isPrefixOf (l.drop a.toNat)
theorem pre_take : ∀ (t l : List UInt8), t.isPrefixOf l = (l.take t.length == t)
 | [], l => by simp
 | c :: t, [] => by simp [List.isPrefixOf]
 | c :: t, d :: l => by
  rw [List.isPrefixOf, pre_take t l, List.length_cons, List.take_succ_cons]
  rw [Bool.eq_iff_iff]
  simp only [Bool.and_eq_true, beq_iff_eq, List.cons.injEq]
  constructor
  ·rintro ⟨a, b⟩; exact ⟨a.symm, b⟩
  ·rintro ⟨a, b⟩; exact ⟨a.symm, b⟩
theorem pre_short (t l : List UInt8) (h : l.length < t.length) : t.isPrefixOf l = false := by
 rw [pre_take, beq_eq_false_iff_ne]
 intro e
 have := congrArg List.length e
 rw [List.length_take] at this; omega
set_option maxHeartbeats 2000000 in
theorem tref_Has (s t : ByteArray) (a : Int) (w : World) (hs : s.size ≤ 1000000) (ht : t.size ≤ 1000000) (ht0 : 0 < t.size) (ha : -1000000000 ≤ a ∧ a ≤ 1000000000) :
  Calls Tryz.prog 50 #[.string s, .int .i64 a, .string t] w fun e w' => e = .returned (.bool (hasP s.data.toList a t.data.toList)) ∧ w = w' := by
 have hsl : s.data.toList.length = s.size := by simp
 have htl : t.data.toList.length = t.size := by simp
 obtain ⟨ha1, ha2⟩ := ha
 rcases (by omega : a < 0 ∨ (0 ≤ a ∧ (s.size : Int) - a < (t.size : Int)) ∨ (0 ≤ a ∧ (t.size : Int) ≤ (s.size : Int) - a)) with h | ⟨h, g⟩ | ⟨h, g⟩
 ·have hv : hasP s.data.toList a t.data.toList = false := by unfold hasP; rw [decide_eq_false (by omega)]; rfl
  have HV := Lib.hid hv
  clear hv hsl htl
  go_enter Tryz.func50, Tryz.ntmps50
  go_wp2
  go_ret
  exact ⟨kretB HV.out.symm, rfl⟩
 ·have hv : hasP s.data.toList a t.data.toList = false := by unfold hasP; rw [pre_short _ _ (by rw [List.length_drop]; omega), Bool.and_false]
  have HV := Lib.hid hv
  clear hv hsl htl
  go_enter Tryz.func50, Tryz.ntmps50
  go_wp2
  go_ret
  exact ⟨kretB HV.out.symm, rfl⟩
 ·obtain ⟨i, rfl⟩ := Int.eq_ofNat_of_zero_le h
  have hsc : ∀ wx, _ := fun wx => slice_mid s (i : Int) ((i : Int) + (t.size : Int)) (by omega) (by omega) (by omega) wx
  rw [show ((i : Int) + (t.size : Int)).toNat = i + t.size by omega, Int.toNat_natCast, kext, show i + t.size - i = t.size by omega] at hsc
  have hv : hasP s.data.toList (i : Int) t.data.toList = ((oB ((s.data.toList.drop i).take t.size)).toList == t.toList) := by
   unfold hasP
   rw [ktl, ByteArray.toList_eq, Int.toNat_natCast, pre_take, htl, decide_eq_true (by omega), Bool.true_and]
  have HV := Lib.hid hv
  clear hv hsl htl
  generalize oB ((s.data.toList.drop i).take t.size) = q at *
  go_enter Tryz.func50, Tryz.ntmps50
  go_wp2
  go_ret
  exact ⟨kretB HV.out.symm, rfl⟩
def spB (c : UInt8) : Bool := isSpaceB (c.toNat : Int)
def spP (l : List UInt8) (i : Nat) : Nat := i + ((l.drop i).takeWhile spB).length
theorem spP_end (l : List UInt8) (i : Nat) (h : l.length ≤ i) : spP l i = i := by unfold spP; rw [List.drop_eq_nil_of_le h]; rfl
theorem spP_yes (l : List UInt8) (i : Nat) (h : i < l.length) (hs : spB l[i] = true) : spP l i = spP l (i + 1) := by
 unfold spP; rw [List.drop_eq_getElem_cons h, List.takeWhile_cons, if_pos hs, List.length_cons]; omega
theorem spP_no (l : List UInt8) (i : Nat) (h : i < l.length) (hs : spB l[i] = false) : spP l i = i := by
 unfold spP; rw [List.drop_eq_getElem_cons h, List.takeWhile_cons, hs]; rfl
theorem spP_le (l : List UInt8) (i : Nat) (h : i ≤ l.length) : i ≤ spP l i ∧ spP l i ≤ l.length := by
 unfold spP
 have := List.takeWhile_prefix spB (l := l.drop i)
 have := this.length_le
 rw [List.length_drop] at this
 omega
set_option maxHeartbeats 2000000 in
theorem tref_spaces (s : ByteArray) (i : Nat) (w : World) (hs : s.size ≤ 1000000) (hi : i ≤ 2000000) :
  Calls Tryz.prog 97 #[.string s, .int .i64 i] w fun e w' => e = .returned (.int .i64 (spP s.data.toList i)) ∧ w = w' := by
 have hsl : s.data.toList.length = s.size := by simp
 have HSL := Lib.hid hsl
 clear hsl
 go_enter Tryz.func97, Tryz.ntmps97
 go_wp2
 go_loop [1] (fun q => ∃ k : Nat, k ≤ 2000000 ∧ q = .int .i64 k ∧ spP s.data.toList i = spP s.data.toList k) (fun q => s.size - (intOf q).toNat)
 case atStart => exact ⟨i, hi, rfl, rfl⟩
 case round =>
  obtain ⟨k, hk, rfl, hrel⟩ := hrel
  by_cases hlt : k < s.size
  ·have hkl : k < s.data.toList.length := by have := HSL.out; omega
   obtain ⟨x, hx⟩ : ∃ x, s[k]'hlt = x := ⟨_, rfl⟩
   have hxl : s.data.toList[k]'hkl = x := by rw [← hx]; simp [ByteArray.getElem_eq_getElem_data]
   have cS : ∀ wx, _ := fun wx => ref_IsSpace (x.toNat : Int) wx
   have hkz : (k : Int) < (s.size : Int) := by omega
   rcases hsp : spB x with _ | _
   ·have hv := hrel.trans (spP_no s.data.toList k hkl (by rw [hxl]; exact hsp))
    have HV := Lib.hid hv
    rw [show isSpaceB (x.toNat : Int) = false from hsp] at cS
    clear hrel hv hxl hsp
    (go_wp2_with fail); (refine (cS _).mono ?_); (rintro e w' ⟨rfl, rfl⟩)
    go_wp2
    go_ret
    exact ⟨kretI (by rw [HV.out]), rfl⟩
   ·have hv := hrel.trans (spP_yes s.data.toList k hkl (by rw [hxl]; exact hsp))
    have HV := Lib.hid hv
    rw [show isSpaceB (x.toNat : Int) = true from hsp] at cS
    clear hrel hv hxl hsp
    (go_wp2_with fail); (refine (cS _).mono ?_); (rintro e w' ⟨rfl, rfl⟩)
    go_wp2
    go_round
    case rel => exact ⟨k + 1, by omega, by go_num, HV.out⟩
    case measure => simp [intOf]; omega
  ·have hv := hrel.trans (spP_end s.data.toList k (by have := HSL.out; omega))
   have HV := Lib.hid hv
   have hkz : ¬ (k : Int) < (s.size : Int) := by omega
   clear hrel hv
   go_wp2
   go_ret
   exact ⟨kretI (by rw [HV.out]), rfl⟩
def nextP (l : List UInt8) (i : Nat) (t : List UInt8) : Int := if Lib.index (l.drop i) t = -1 then -1 else (i : Int) + Lib.index (l.drop i) t
theorem index_nil (t : List UInt8) (h : t ≠ []) : ∀ l : List UInt8, l.length < t.length → Lib.index l t = -1
 | [], _ => by rw [Lib.index, if_neg (by simpa using h)]
 | c :: l, hl => by
  rw [Lib.index, pre_short _ _ hl, index_nil t h l (by simp at hl; omega)]; rfl
theorem nextP_end (l : List UInt8) (i : Nat) (t : List UInt8) (ht : t ≠ []) (h : (l.length : Int) - (t.length : Int) < (i : Int)) : nextP l i t = -1 := by
 have h0 : 0 < t.length := List.length_pos_iff.2 ht
 unfold nextP
 rw [if_pos (index_nil t ht _ (by rw [List.length_drop]; omega))]
theorem nextP_hit (l : List UInt8) (i : Nat) (t : List UInt8) (hi : i < l.length) (h : hasP l (i : Int) t = true) : nextP l i t = i := by
 unfold hasP at h
 rw [Int.toNat_natCast, Bool.and_eq_true] at h
 unfold nextP
 rw [List.drop_eq_getElem_cons hi] at h ⊢
 rw [Lib.index, if_pos h.2, if_neg (by decide)]; omega
theorem nextP_miss (l : List UInt8) (i : Nat) (t : List UInt8) (hi : i < l.length) (h : hasP l (i : Int) t = false) : nextP l i t = nextP l (i + 1) t := by
 have h2 : t.isPrefixOf (l.drop i) = false := by
  unfold hasP at h
  rw [Int.toNat_natCast, decide_eq_true (by omega), Bool.true_and] at h
  exact h
 have hge := Lib.index_ge (l.drop (i + 1)) t
 unfold nextP
 rw [List.drop_eq_getElem_cons hi] at h2 ⊢
 rw [Lib.index, h2]
 by_cases hm : Lib.index (l.drop (i + 1)) t = -1
 ·rw [hm]; rfl
 ·have hb : (Lib.index (l.drop (i + 1)) t == -1) = false := by simpa using hm
  rw [hb]
  simp only [Bool.false_eq_true, if_false]
  rw [if_neg hm, if_neg (by omega)]; omega
set_option maxHeartbeats 2000000 in
theorem tref_find (s t : ByteArray) (i : Nat) (w : World) (hs : s.size ≤ 1000000) (ht : t.size ≤ 1000000) (ht0 : 0 < t.size) (hi : i ≤ 2000000) :
  Calls Tryz.prog 77 #[.string s, .int .i64 i, .string t] w fun e w' => e = .returned (.int .i64 (nextP s.data.toList i t.data.toList)) ∧ w = w' := by
 have hsl : s.data.toList.length = s.size := by simp
 have htl : t.data.toList.length = t.size := by simp
 have htn : t.data.toList ≠ [] := fun e => by rw [e] at htl; simp at htl; omega
 have HSL := Lib.hid hsl
 have HTL := Lib.hid htl
 have HTN := Lib.hid htn
 clear hsl htl htn
 go_enter Tryz.func77, Tryz.ntmps77
 go_wp2
 go_loop [7] (fun q => ∃ k : Nat, k ≤ 2000000 ∧ q = .int .i64 k ∧ nextP s.data.toList i t.data.toList = nextP s.data.toList k t.data.toList) (fun q => s.size - (intOf q).toNat)
 case atStart => exact ⟨i, hi, rfl, rfl⟩
 case round =>
  obtain ⟨k, hk, rfl, hrel⟩ := hrel
  have cH : ∀ wx, _ := fun wx => tref_Has s t (k : Int) wx hs ht ht0 (by omega)
  by_cases hlt : (k : Int) ≤ (s.size : Int) - (t.size : Int)
  ·have hkl : k < s.data.toList.length := by have := HSL.out; omega
   rcases hh : hasP s.data.toList (k : Int) t.data.toList with _ | _
   ·have hv := hrel.trans (nextP_miss _ k _ hkl hh)
    have HV := Lib.hid hv
    rw [hh] at cH
    clear hrel hv hh
    (go_wp2_with fail); (refine (cH _).mono ?_); (rintro e w' ⟨rfl, rfl⟩)
    go_wp2
    go_round
    case rel => exact ⟨k + 1, by omega, by go_num, HV.out⟩
    case measure => simp [intOf]; omega
   ·have hv := hrel.trans (nextP_hit _ k _ hkl hh)
    have HV := Lib.hid hv
    rw [hh] at cH
    clear hrel hv hh
    (go_wp2_with fail); (refine (cH _).mono ?_); (rintro e w' ⟨rfl, rfl⟩)
    go_wp2
    go_ret
    exact ⟨kretI (by rw [HV.out]), rfl⟩
  ·have hv := hrel.trans (nextP_end _ k _ HTN.out (by have := HSL.out; have := HTL.out; omega))
   have HV := Lib.hid hv
   clear hrel hv
   go_wp2
   go_ret
   exact ⟨kretI (by rw [HV.out]), rfl⟩
theorem kinfo_u8 : (Tryz.prog.info? 5).map (fun i => (i.zero, i.size, i.bytes)) = some (some (.int .u8 0), 1, 1) := by kernel_rfl
def linesP : List UInt8 → List UInt8
 | [] => []
 | c :: r => if c = 13 ∧ r.head? = some 10 then linesP r else (if c = 13 then 10 else c) :: linesP r
theorem linesP_len : ∀ l : List UInt8, (linesP l).length ≤ l.length
 | [] => Nat.le_refl _
 | c :: r => by
  have := linesP_len r
  rw [linesP]
  split
  ·rw [List.length_cons]; omega
  ·rw [List.length_cons, List.length_cons]; omega
theorem ku8_int {a : UInt8} {n : Nat} (hn : n < 256) : a = UInt8.ofNat n ↔ (a.toNat : Int) = n := by
 constructor
 ·intro h; rw [h, UInt8.toNat_ofNat']; omega
 ·intro h; apply UInt8.toNat_inj.1; rw [UInt8.toNat_ofNat']; omega
set_option maxHeartbeats 8000000 in
theorem tref_Lines (s : ByteArray) (w : World) (hs : s.size ≤ 1000000) :
  Calls Tryz.prog 74 #[.string s] w fun e w' => e = .returned (.string (oB (linesP s.data.toList))) ∧ Below w.heap.size w w' := by
 obtain ⟨i0, hi, hz0, hz1, hz2⟩ := info_parts kinfo_u8
 have hsl : s.data.toList.length = s.size := by simp
 have HSL := Lib.hid hsl
 clear hsl
 go_enter Tryz.func74, Tryz.ntmps74
 go_wp2
 go_loopw [3, 4] (fun v i wr => ∃ (k : Nat) (acc : List UInt8) (A : Option Addr) (c : Nat), k ≤ s.size ∧ i = .int .i64 k ∧ v = .slice A acc.length c ∧ wr.ownsRow w.heap.size 5 1 (.slice A acc.length c) acc.length (u8s acc) ∧ (linesP s.data.toList = acc ++ linesP (s.data.toList.drop k) ∧ acc.length ≤ k) ∧ Below w.heap.size w wr) (fun _ i _ => s.size - (intOf i).toNat)
 case atStart => exact ⟨0, [], none, 0, by omega, rfl, rfl, World.ownsRow_nil _ _ _ _, ⟨rfl, by simp⟩, Below.refl _ _⟩
 case round =>
  obtain ⟨k, acc, A, c, hk, rfl, rfl, hown, hrel, hbel⟩ := hrel
  have hz := hbel.size
  by_cases hlt : k < s.size
  ·have hkl : k < s.data.toList.length := by have := HSL.out; omega
   obtain ⟨x, hx⟩ : ∃ x, s[k]'hlt = x := ⟨_, rfl⟩
   have hxl : s.data.toList[k]'hkl = x := by rw [← hx]; simp [ByteArray.getElem_eq_getElem_data]
   rw [List.drop_eq_getElem_cons hkl, hxl, linesP] at hrel
   have hle : acc.length ≤ 1000000 := by omega
   have hkz : (k : Int) < (s.size : Int) := by omega
   have hx8 := x.toNat_lt
   by_cases h13 : x = 13
   ·subst h13
    by_cases hk1 : k + 1 < s.size
    ·have hkl1 : k + 1 < s.data.toList.length := by have := HSL.out; omega
     obtain ⟨y, hy⟩ : ∃ y, s[k + 1]'hk1 = y := ⟨_, rfl⟩
     have hyl : s.data.toList[k + 1]'hkl1 = y := by rw [← hy]; simp [ByteArray.getElem_eq_getElem_data]
     have hhd : (s.data.toList.drop (k + 1)).head? = some y := by rw [List.drop_eq_getElem_cons hkl1, hyl]; rfl
     have hk1z : (k : Int) + 1 < (s.size : Int) := by omega
     by_cases h10 : y = 10
     ·subst h10
      have R : linesP s.data.toList = acc ++ linesP (s.data.toList.drop (k + 1)) ∧ acc.length ≤ k + 1 := ⟨by rw [hrel.1, if_pos ⟨rfl, hhd⟩], by omega⟩
      have HR := Lib.hid R
      clear hrel hxl hyl hhd R
      go_wp2
      go_roundw
      case rel => exact ⟨k + 1, acc, A, c, by omega, by go_num, rfl, hown, HR.out, hbel⟩
      case measure => simp [intOf]; omega
     ·have hb10 : ((y.toNat : Int) == 10) = false := by
       have : ¬ ((y.toNat : Int) = 10) := fun h => h10 ((ku8_int (n := 10) (by omega)).2 h)
       simpa using this
      have R : linesP s.data.toList = (acc ++ [10]) ++ linesP (s.data.toList.drop (k + 1)) ∧ (acc ++ [10]).length ≤ k + 1 := ⟨by rw [hrel.1, if_neg (by rw [hhd]; simpa using h10), if_pos rfl]; simp, by simp; omega⟩
      have HR := Lib.hid R
      clear hrel hxl hyl hhd R h10
      go_wp2_with (at_builtin; refine wpList_append_own _ rfl (.tmp 33) (.tmp 34) 44 rfl w.heap.size 5 i0 (.int .u8 0) 1 1 Tryz.underlying44 hi hz0 hz1 hz2 rfl (by decide) (.slice A acc.length c) acc.length (u8s acc) rfl (hown.alloc _) ⟨wr.heap.size, 0, none⟩ 1 1 [.int .u8 10] rfl rfl (cell_one_new _ _ _) (by intro u hu; simp at hu; subst hu; rfl) (by unfold maxLen; omega) (by omega) (by simp; omega) ?_; intro v' w2 hown' hgr' _)
      obtain ⟨A', c', hv', hown2⟩ := own_push (x := 10) hown'
      have hb2 : Below w.heap.size w w2 := (hbel.alloc hz _).grown hgr' (by simp; omega) (fun g hg => (hown.lt g hg).1)
      go_roundw
      case rel => exact ⟨k + 1, _, A', c', by omega, by go_num, hv', hown2, HR.out, hb2⟩
      case measure => simp [intOf]; omega
    ·have hhd : (s.data.toList.drop (k + 1)).head? = none := by rw [List.drop_eq_nil_of_le (by have := HSL.out; omega)]; rfl
     have hk1z : ¬ (k : Int) + 1 < (s.size : Int) := by omega
     have R : linesP s.data.toList = (acc ++ [10]) ++ linesP (s.data.toList.drop (k + 1)) ∧ (acc ++ [10]).length ≤ k + 1 := ⟨by rw [hrel.1, if_neg (by rw [hhd]; simp), if_pos rfl]; simp, by simp; omega⟩
     have HR := Lib.hid R
     clear hrel hxl hhd R
     go_wp2_with (at_builtin; refine wpList_append_own _ rfl (.tmp 33) (.tmp 34) 44 rfl w.heap.size 5 i0 (.int .u8 0) 1 1 Tryz.underlying44 hi hz0 hz1 hz2 rfl (by decide) (.slice A acc.length c) acc.length (u8s acc) rfl (hown.alloc _) ⟨wr.heap.size, 0, none⟩ 1 1 [.int .u8 10] rfl rfl (cell_one_new _ _ _) (by intro u hu; simp at hu; subst hu; rfl) (by unfold maxLen; omega) (by omega) (by simp; omega) ?_; intro v' w2 hown' hgr' _)
     obtain ⟨A', c', hv', hown2⟩ := own_push (x := 10) hown'
     have hb2 : Below w.heap.size w w2 := (hbel.alloc hz _).grown hgr' (by simp; omega) (fun g hg => (hown.lt g hg).1)
     go_roundw
     case rel => exact ⟨k + 1, _, A', c', by omega, by go_num, hv', hown2, HR.out, hb2⟩
     case measure => simp [intOf]; omega
   ·have hb13 : ((x.toNat : Int) == 13) = false := by
     have : ¬ ((x.toNat : Int) = 13) := fun h => h13 ((ku8_int (n := 13) (by omega)).2 h)
     simpa using this
    have R : linesP s.data.toList = (acc ++ [x]) ++ linesP (s.data.toList.drop (k + 1)) ∧ (acc ++ [x]).length ≤ k + 1 := ⟨by rw [hrel.1, if_neg (fun h => h13 h.1), if_neg h13]; simp, by simp; omega⟩
    have HR := Lib.hid R
    clear hrel hxl R h13
    go_wp2_with (at_builtin; refine wpList_append_own _ rfl (.tmp 36) (.tmp 40) 44 rfl w.heap.size 5 i0 (.int .u8 0) 1 1 Tryz.underlying44 hi hz0 hz1 hz2 rfl (by decide) (.slice A acc.length c) acc.length (u8s acc) rfl (hown.alloc _) ⟨wr.heap.size, 0, none⟩ 1 1 [.int .u8 (x.toNat : Int)] rfl rfl (cell_one_new _ _ _) (by intro u hu; simp at hu; subst hu; rfl) (by unfold maxLen; omega) (by omega) (by simp; omega) ?_; intro v' w2 hown' hgr' _)
    obtain ⟨A', c', hv', hown2⟩ := own_push (x := x) hown'
    have hb2 : Below w.heap.size w w2 := (hbel.alloc hz _).grown hgr' (by simp; omega) (fun g hg => (hown.lt g hg).1)
    go_roundw
    case rel => exact ⟨k + 1, _, A', c', by omega, by go_num, hv', hown2, HR.out, hb2⟩
    case measure => simp [intOf]; omega
  ·obtain rfl : k = s.size := by omega
   have hae : linesP s.data.toList = acc := by
    rw [hrel.1, List.drop_eq_nil_of_le (by have := HSL.out; omega), linesP, List.append_nil]
   have HE := Lib.hid hae
   have hconv := convert_own (P := Tryz.prog) (w := wr) (src := 44) (dst := 9) Tryz.underlying44 Tryz.underlying5 Tryz.underlying9 hown
   clear hrel hae
   go_wp2
   go_ret
   exact ⟨by rw [HE.out]; rfl, hbel⟩
def qcB (r : Int) : Bool := r == 58 || nameCharB r
def qsB (r : Int) : Bool := r == 58 || nameStartB r
def qnF (s : ByteArray) : Nat → Nat → Bool
 | 0, _ => true
 | f + 1, i => if i < s.size then (if qcB (decP s i).1 then qnF s f (i + (decP s i).2) else false) else true
theorem pos_of_qn (s : ByteArray) (i : Nat) (h : i < s.size) (hc : qcB (decP s i).1 = true) : 0 < (decP s i).2 := by
 rcases Nat.eq_zero_or_pos (decP s i).2 with h0 | h0
 ·rw [(decP_ok s i h).2.2.2 h0] at hc
  exact absurd hc (by decide)
 ·exact h0
theorem qnF_more (s : ByteArray) : ∀ f g i, s.size - i ≤ f → s.size - i ≤ g → qnF s f i = qnF s g i
 | 0, 0, _, _, _ => rfl
 | 0, g + 1, i, h, _ => by rw [qnF, qnF, if_neg (by omega)]
 | f + 1, 0, i, _, h => by rw [qnF, qnF, if_neg (by omega)]
 | f + 1, g + 1, i, h, h' => by
  rw [qnF, qnF]
  by_cases hi : i < s.size
  ·rw [if_pos hi, if_pos hi]
   by_cases hc : qcB (decP s i).1
   ·have := pos_of_qn s i hi hc
    rw [if_pos hc, if_pos hc]; exact qnF_more s f g _ (by omega) (by omega)
   ·rw [if_neg hc, if_neg hc]
  ·rw [if_neg hi, if_neg hi]
def qnAt (s : ByteArray) (i : Nat) : Bool := qnF s (s.size - i) i
theorem qnAt_end (s : ByteArray) (i : Nat) (h : s.size ≤ i) : qnAt s i = true := by rw [qnAt, show s.size - i = 0 by omega, qnF]
theorem qnAt_eq (s : ByteArray) (i : Nat) (h : i < s.size) : qnAt s i = if qcB (decP s i).1 then qnAt s (i + (decP s i).2) else false := by
 rw [qnAt, show s.size - i = (s.size - i - 1) + 1 by omega, qnF, if_pos h]
 by_cases hc : qcB (decP s i).1
 ·have := pos_of_qn s i h hc
  rw [if_pos hc, if_pos hc, qnAt, qnF_more s _ (s.size - (i + (decP s i).2)) _ (by omega) (by omega)]
 ·rw [if_neg hc, if_neg hc]
def isQB (s : ByteArray) : Bool := decide (0 < s.size) && (qsB (decP s 0).1 && qnAt s (decP s 0).2)
theorem isQB_pos (s : ByteArray) (h : 0 < s.size) : isQB s = (qsB (decP s 0).1 && qnAt s (decP s 0).2) := by unfold isQB; rw [decide_eq_true h, Bool.true_and]
theorem qs_char (r : Int) (h : qcB r = false) : qsB r = false := by
 unfold qcB at h
 rw [Bool.or_eq_false_iff] at h
 unfold qsB
 rw [h.1]
 have h2 := h.2
 unfold nameCharB at h2
 rw [Bool.or_eq_false_iff] at h2
 rw [h2.1]; rfl
def QnRel (s : ByteArray) (k : Nat) : Prop := k = 0 ∨ isQB s = qnAt s k
theorem QnRel.none {s : ByteArray} {k r m : Nat} (h : QnRel s k) (hk : k < s.size) (hd : decP s k = (r, m)) (hm : m = 0 ∨ qcB r = false) : isQB s = false := by
 have hc : qcB r = false := by
  rcases hm with rfl | hm
  ·have := (decP_ok s k hk).2.2.2 (by rw [hd])
   rw [hd] at this
   simp only at this
   subst this
   decide
  ·exact hm
 rcases h with rfl | h
 ·rw [isQB_pos s hk, hd]; simp only; rw [qs_char _ hc]; rfl
 ·rw [h, qnAt_eq s k hk, hd]; simp only; rw [hc]; rfl
theorem QnRel.start {s : ByteArray} {r m : Nat} (hk : 0 < s.size) (hd : decP s 0 = (r, m)) (hs : qsB r = false) : isQB s = false := by
 rw [isQB_pos s hk, hd]; simp only; rw [hs]; rfl
theorem QnRel.next {s : ByteArray} {k r m : Nat} (h : QnRel s k) (hk : k < s.size) (hd : decP s k = (r, m)) (hc : qcB r = true) (hs : k = 0 → qsB r = true) : QnRel s (k + m) := by
 right
 rcases h with rfl | h
 ·rw [isQB_pos s hk, hd]; simp only; rw [hs rfl, Bool.true_and, Nat.zero_add]
 ·rw [h, qnAt_eq s k hk, hd]; simp only; rw [hc, if_pos rfl]
theorem QnRel.done {s : ByteArray} {k : Nat} (h : QnRel s k) (hk : k = s.size) : isQB s = decide (0 < k) := by
 rcases Nat.eq_zero_or_pos k with h0 | h0
 ·unfold isQB; rw [decide_eq_false (by omega), decide_eq_false (by omega)]; rfl
 ·rcases h with rfl | h
  ·omega
  ·rw [h, qnAt_end s k (by omega)]; simp [h0]
set_option maxHeartbeats 4000000 in
theorem tref_IsQName (s : ByteArray) (w : World) (hs : s.size ≤ maxLen) :
  Calls Tryz.prog 35 #[.string s] w fun e w' => e = .returned (.bool (isQB s)) ∧ Below w.heap.size w w' := by
 have hs' := hs
 unfold maxLen at hs
 go_enter Tryz.func35, Tryz.ntmps35
 go_wp2
 go_loopw [3] (fun i wr => ∃ k : Nat, k ≤ s.size ∧ i = .int .i64 k ∧ QnRel s k ∧ Below w.heap.size w wr) (fun i _ => s.size - (RowKit.intOf i).toNat)
 case atStart => exact ⟨0, Nat.zero_le _, rfl, .inl rfl, Below.refl _ _⟩
 case round =>
  obtain ⟨k, hk, rfl, hf, hbel⟩ := hrel
  have hz := hbel.size
  by_cases hlt : k < s.size
  ·have hc := ref_Decode s k wr hs'
   have hok := decP_ok s k hlt
   rw [decI_at s k hlt] at hc
   obtain ⟨r, m, hd⟩ : ∃ r m, decP s k = (r, m) := ⟨_, _, rfl⟩
   rw [hd] at hc hok
   simp only at hc hok
   obtain ⟨o1, o2, o3, _⟩ := hok
   have hkz : (k : Int) < (s.size : Int) := by omega
   by_cases hm : m = 0
   ·have HF := Lib.hid (hf.none hlt hd (.inl hm))
    subst hm
    clear hf hd
    go_wp2_with (go_at_call 54; refine hc.mono ?_; rintro e w1 ⟨rfl, hb⟩)
    all_goals go_ret
    all_goals exact ⟨retb HF.out.symm, hbel.trans (hb.mono hz)⟩
   ·have hmz : ((m : Int) == 0) = false := by simp; omega
    have hchar := ref_IsNameChar (r : Int)
    have hst := ref_IsNameStart (r : Int)
    by_cases hcol : r = 58
    ·subst hcol
     have HF := Lib.hid (hf.next hlt hd rfl (fun _ => rfl))
     clear hf hd
     go_wp2_with (go_at_call 54; refine hc.mono ?_; rintro e w1 ⟨rfl, hb⟩)
     all_goals
      go_roundw
      case rel => exact ⟨k + m, by omega, by go_num, HF.out, hbel.trans (hb.mono hz)⟩
      case measure => simp [RowKit.intOf]; omega
    ·have hb58 : ((r : Int) != 58) = true := by simp; omega
     have e58 : ((r : Int) == 58) = false := by simp; omega
     rcases hb0 : nameCharB r with _ | _
     ·have HF := Lib.hid (hf.none hlt hd (.inr (by unfold qcB; rw [e58, hb0]; rfl)))
      rw [hb0] at hchar
      clear hf hd hb0
      go_wp2_with (first | (go_at_call 54; refine hc.mono ?_; rintro e w1 ⟨rfl, hb⟩) | (go_at_call 55; refine (hchar _).mono ?_; rintro e w' ⟨rfl, rfl⟩))
      all_goals go_ret
      all_goals exact ⟨retb HF.out.symm, hbel.trans (hb.mono hz)⟩
     ·have hqc : qcB (r : Int) = true := by unfold qcB; rw [hb0, Bool.or_true]
      rw [hb0] at hchar
      rcases Nat.eq_zero_or_pos k with h0 | h0
      ·subst h0
       rcases hb1 : nameStartB r with _ | _
       ·have HF := Lib.hid (QnRel.start hlt hd (by unfold qsB; rw [e58, hb1]; rfl))
        rw [hb1] at hst
        clear hf hd hb0 hb1 hqc
        go_wp2_with (first | (go_at_call 54; refine hc.mono ?_; rintro e w1 ⟨rfl, hb⟩) | (go_at_call 55; refine (hchar _).mono ?_; rintro e w' ⟨rfl, rfl⟩) | (go_at_call 56; refine (hst _).mono ?_; rintro e w' ⟨rfl, rfl⟩))
        all_goals go_ret
        all_goals exact ⟨retb HF.out.symm, hbel.trans (hb.mono hz)⟩
       ·have HF := Lib.hid (hf.next hlt hd hqc (fun _ => by unfold qsB; rw [hb1, Bool.or_true]))
        rw [hb1] at hst
        clear hf hd hb0 hb1 hqc
        go_wp2_with (first | (go_at_call 54; refine hc.mono ?_; rintro e w1 ⟨rfl, hb⟩) | (go_at_call 55; refine (hchar _).mono ?_; rintro e w' ⟨rfl, rfl⟩) | (go_at_call 56; refine (hst _).mono ?_; rintro e w' ⟨rfl, rfl⟩))
        all_goals
         go_roundw
         case rel => exact ⟨0 + m, by omega, by go_num, HF.out, hbel.trans (hb.mono hz)⟩
         case measure => simp [RowKit.intOf]; omega
      ·have HF := Lib.hid (hf.next hlt hd hqc (fun h => absurd h (by omega)))
       have hk0 : ((k : Int) == 0) = false := by simp; omega
       clear hf hd hb0 hqc
       go_wp2_with (first | (go_at_call 54; refine hc.mono ?_; rintro e w1 ⟨rfl, hb⟩) | (go_at_call 55; refine (hchar _).mono ?_; rintro e w' ⟨rfl, rfl⟩))
       all_goals
        go_roundw
        case rel => exact ⟨k + m, by omega, by go_num, HF.out, hbel.trans (hb.mono hz)⟩
        case measure => simp [RowKit.intOf]; omega
  ·obtain rfl : k = s.size := by omega
   have HF := Lib.hid (hf.done rfl)
   have hkz : ¬ (s.size : Int) < (s.size : Int) := by omega
   clear hf
   go_wp2
   all_goals go_ret
   all_goals exact ⟨retb (by rw [HF.out]; try simp), hbel⟩
def nmF (s : ByteArray) (i : Nat) : Nat → Nat → Nat
 | 0, k => k
 | f + 1, k => if k < s.size then (if (decP s k).2 = 0 then k else if isQB (s.extract i (k + (decP s k).2)) then nmF s i f (k + (decP s k).2) else k) else k
def nmP (s : ByteArray) (i : Nat) : Nat := nmF s i (s.size + 1) i
theorem nmF_le (s : ByteArray) (i : Nat) : ∀ f k, k ≤ s.size → k ≤ nmF s i f k ∧ nmF s i f k ≤ s.size
 | 0, k, h => ⟨Nat.le_refl _, h⟩
 | f + 1, k, h => by
  rw [nmF]
  split
  ·rename_i hk
   have hok := decP_ok s k hk
   split
   ·exact ⟨Nat.le_refl _, h⟩
   ·split
    ·have := nmF_le s i f (k + (decP s k).2) (by omega)
     omega
    ·exact ⟨Nat.le_refl _, h⟩
  ·exact ⟨Nat.le_refl _, h⟩
theorem nmP_le (s : ByteArray) (i : Nat) (h : i ≤ s.size) : i ≤ nmP s i ∧ nmP s i ≤ s.size := nmF_le s i _ i h
theorem nmP_out (s : ByteArray) (i : Nat) (h : s.size ≤ i) : nmP s i = i := by unfold nmP; rw [nmF, if_neg (by omega)]
set_option maxHeartbeats 4000000 in
theorem tref_name (s : ByteArray) (i : Nat) (w : World) (hs : s.size ≤ 1000000) (hi : i ≤ 2000000) :
  Calls Tryz.prog 96 #[.string s, .int .i64 i] w fun e w' => e = .returned (.int .i64 (nmP s i)) ∧ Below w.heap.size w w' := by
 go_enter Tryz.func96, Tryz.ntmps96
 go_wp2
 go_loopw [5] (fun q wr => ∃ k f : Nat, i ≤ k ∧ k ≤ 2000000 ∧ q = .int .i64 k ∧ (nmP s i = nmF s i f k ∧ s.size - k < f) ∧ Below w.heap.size w wr) (fun q _ => s.size - (intOf q).toNat)
 case atStart => exact ⟨i, s.size + 1, Nat.le_refl _, hi, rfl, ⟨rfl, by omega⟩, Below.refl _ _⟩
 case round =>
  obtain ⟨k, f, hik, hk2, rfl, ⟨hrel, hf⟩, hbel⟩ := hrel
  have hz := hbel.size
  obtain ⟨f, rfl⟩ : ∃ g, f = g + 1 := ⟨f - 1, by omega⟩
  rw [nmF] at hrel
  by_cases hlt : k < s.size
  ·have hkz : (k : Int) < (s.size : Int) := by omega
   have hc := ref_Decode s k wr (by unfold maxLen; omega)
   have hok := decP_ok s k hlt
   rw [decI_at s k hlt] at hc
   rw [if_pos hlt] at hrel
   generalize decP s k = dd at *
   obtain ⟨r, m⟩ := dd
   simp only at hc hok hrel
   obtain ⟨o1, o2, o3, _⟩ := hok
   by_cases hm : m = 0
   ·subst hm
    rw [if_pos rfl] at hrel
    have HV := Lib.hid hrel
    clear hrel
    go_wp2_with (go_at_call 54; refine hc.mono ?_; rintro e w1 ⟨rfl, hb⟩)
    all_goals go_ret
    all_goals exact ⟨kretI (by rw [HV.out]), hbel.trans (hb.mono hz)⟩
   ·have hmz : ((m : Int) == 0) = false := by simp; omega
    rw [if_neg hm] at hrel
    have hsc : ∀ wx, _ := fun wx => slice_mid s (i : Int) ((k : Int) + (m : Int)) (by omega) (by omega) (by omega) wx
    rw [show ((k : Int) + (m : Int)).toNat = k + m by omega, Int.toNat_natCast] at hsc
    have hqs : (s.extract i (k + m)).size ≤ s.size := by rw [ByteArray.size_extract]; omega
    have cQ : ∀ wx, _ := fun wx => tref_IsQName (s.extract i (k + m)) wx (by unfold maxLen; omega)
    generalize s.extract i (k + m) = p at *
    rcases hq : isQB p with _ | _
    ·rw [hq] at cQ hrel
     have HV := Lib.hid (hrel.trans (if_neg (by decide)))
     clear hrel hq
     go_wp2_with fail
     refine hc.mono ?_
     rintro e w1 ⟨rfl, hb⟩
     go_wp2_with fail
     refine (cQ _).mono ?_
     rintro e w2 ⟨rfl, hb2⟩
     go_wp2
     go_ret
     exact ⟨kretI (by rw [HV.out]), hbel.trans ((hb.trans (hb2.mono hb.size)).mono hz)⟩
    ·rw [hq] at cQ hrel
     have HV := Lib.hid (hrel.trans (if_pos rfl))
     clear hrel hq
     go_wp2_with fail
     refine hc.mono ?_
     rintro e w1 ⟨rfl, hb⟩
     go_wp2_with fail
     refine (cQ _).mono ?_
     rintro e w2 ⟨rfl, hb2⟩
     go_wp2
     go_roundw
     case rel => exact ⟨k + m, f, by omega, by omega, by go_num, ⟨HV.out, by omega⟩, hbel.trans ((hb.trans (hb2.mono hb.size)).mono hz)⟩
     case measure => simp [intOf]; omega
  ·rw [if_neg hlt] at hrel
   have HV := Lib.hid hrel
   have hkz : ¬ (k : Int) < (s.size : Int) := by omega
   clear hrel
   go_wp2
   go_ret
   exact ⟨kretI (by rw [HV.out]), hbel⟩
def misP (n : Nat) (i k : Int) : Int × Int := if (n : Int) ≤ k then (i, 8) else (k, 7)
theorem kretP {p : Int × Int} {a b : Int} (h : p = (a, b)) : Ending.returned (.tuple #[.int .i64 a, .int .i64 b]) = .returned (.tuple #[.int .i64 p.1, .int .i64 p.2]) := by rw [h]
theorem tref_missing (s : ByteArray) (i k : Int) (w : World) : Calls Tryz.prog 98 #[.string s, .int .i64 i, .int .i64 k] w fun e w' => e = .returned (.tuple #[.int .i64 (misP s.size i k).1, .int .i64 (misP s.size i k).2]) ∧ w = w' := by
 by_cases h : (s.size : Int) ≤ k
 ·have HV := Lib.hid (show misP s.size i k = (i, 8) from if_pos h)
  go_enter Tryz.func98, Tryz.ntmps98
  go_wp2
  go_ret2
  exact ⟨kretP HV.out, rfl⟩
 ·have HV := Lib.hid (show misP s.size i k = (k, 7) from if_neg h)
  go_enter Tryz.func98, Tryz.ntmps98
  go_wp2
  go_ret2
  exact ⟨kretP HV.out, rfl⟩
def skipP (l : List UInt8) (i n : Nat) (t : List UInt8) : Int × Int := if nextP l (i + n) t < 0 then ((i : Int), 8) else (nextP l (i + n) t + (t.length : Int), 0)
theorem index_room : ∀ (l t : List UInt8), Lib.index l t ≠ -1 → Lib.index l t + (t.length : Int) ≤ (l.length : Int)
 | [], t, h => by
  rw [Lib.index] at h ⊢
  split
  ·rename_i he
   rw [List.isEmpty_iff.1 he]; simp
  ·rename_i he
   rw [if_neg he] at h; exact absurd rfl h
 | b :: l, t, h => by
  rw [Lib.index] at h ⊢
  by_cases hp : t.isPrefixOf (b :: l) = true
  ·rw [if_pos hp]
   rcases Nat.lt_or_ge (b :: l).length t.length with g | g
   ·rw [pre_short _ _ g] at hp; cases hp
   ·omega
  ·rw [if_neg hp] at h ⊢
   by_cases hm : (Lib.index l t == -1) = true
   ·rw [if_pos hm] at h; exact absurd rfl h
   ·rw [if_neg hm]
    have hm2 : Lib.index l t ≠ -1 := by simpa using hm
    have := index_room l t hm2
    rw [List.length_cons]; omega
theorem nextP_bd (l : List UInt8) (i : Nat) (t : List UInt8) : nextP l i t = -1 ∨ ((i : Int) ≤ nextP l i t ∧ nextP l i t + (t.length : Int) ≤ (max l.length i : Nat)) := by
 by_cases hm : Lib.index (l.drop i) t = -1
 ·left; unfold nextP; rw [if_pos hm]
 ·right
  have hge := Lib.index_ge (l.drop i) t
  have hr := index_room _ _ hm
  rw [List.length_drop] at hr
  unfold nextP
  rw [if_neg hm]
  omega
set_option maxHeartbeats 2000000 in
theorem tref_skip (s o t : ByteArray) (i : Nat) (w : World) (hs : s.size ≤ 1000000) (ho : o.size ≤ 100) (ht : t.size ≤ 100) (ht0 : 0 < t.size) (hi : i ≤ 1000000) :
  Calls Tryz.prog 73 #[.string s, .int .i64 i, .string o, .string t] w fun e w' => e = .returned (.tuple #[.int .i64 (skipP s.data.toList i o.size t.data.toList).1, .int .i64 (skipP s.data.toList i o.size t.data.toList).2]) ∧ w = w' := by
 have hsl : s.data.toList.length = s.size := by simp
 have htl : t.data.toList.length = t.size := by simp
 have cF : ∀ wx, _ := fun wx => tref_find s t (i + o.size) wx hs (by omega) ht0 (by omega)
 have hb := nextP_bd s.data.toList (i + o.size) t.data.toList
 rw [hsl, htl] at hb
 have hsk : skipP s.data.toList i o.size t.data.toList = if nextP s.data.toList (i + o.size) t.data.toList < 0 then ((i : Int), 8) else (nextP s.data.toList (i + o.size) t.data.toList + (t.size : Int), 0) := by unfold skipP; rw [htl]
 rw [show ((i + o.size : Nat) : Int) = (i : Int) + (o.size : Int) by omega] at cF
 generalize nextP s.data.toList (i + o.size) t.data.toList = v at *
 have hv : -1 ≤ v ∧ v ≤ 2000000 := by omega
 obtain ⟨hv1, hv2⟩ := hv
 have hi2 : (i : Int) ≤ 1000000 := by omega
 have ho2 : (o.size : Int) ≤ 100 := by omega
 have ht2 : (t.size : Int) ≤ 100 := by omega
 rcases (by omega : v < 0 ∨ 0 ≤ v) with h | h
 ·have HV := Lib.hid (hsk.trans (if_pos h))
  clear hsk hb hsl htl
  go_enter Tryz.func73, Tryz.ntmps73
  (go_wp2_with fail); (refine (cF _).mono ?_); (rintro e w' ⟨rfl, rfl⟩)
  go_wp2
  go_ret2
  exact ⟨kretP HV.out, rfl⟩
 ·have HV := Lib.hid (hsk.trans (if_neg (by omega)))
  clear hsk hb hsl htl
  go_enter Tryz.func73, Tryz.ntmps73
  (go_wp2_with fail); (refine (cF _).mono ?_); (rintro e w' ⟨rfl, rfl⟩)
  go_wp2
  go_ret2
  exact ⟨kretP HV.out, rfl⟩
end
end Go.Proofs.YtppmoeidgefkpaaGreatDoor
