/- Packed from the texts TokE. -/
import Derived.Test.YtppmoeidgefkpaaGreatDoorWEscC
import Derived.Test.YtppmoeidgefkpaaGreatDoorWRow
import Derived.Test.YtppmoeidgefkpaaGreatDoorWTokA
import Derived.Lib.ConvBytes
import Derived.Laws.IdiomStrings
import Derived.Deep.QuietTactic
import Derived.BigQuiet
import Derived.WalkSmall
import Derived.Laws.StructEq
set_option maxRecDepth 100000
namespace Go.Proofs.YtppmoeidgefkpaaGreatDoor
section
open Go.RowKit
def amp (l : List UInt8) : List UInt8 := l.takeWhile fun c => c != 38
theorem amp_cons (c : UInt8) (r : List UInt8) (h : c ≠ 38) : amp (c :: r) = c :: amp r := by unfold amp; rw [List.takeWhile_cons, if_pos (by simpa using h)]
theorem amp_amp (r : List UInt8) : amp (38 :: r) = [] := rfl
theorem amp_len (l : List UInt8) : (amp l).length ≤ l.length := (List.takeWhile_prefix _).length_le
def chunk (l : List UInt8) (i j : Nat) : List UInt8 := amp ((l.drop i).take (j - i))
def spOne (c : UInt8) : UInt8 := if spB c then 32 else c
def spMap (v : Bool) (l : List UInt8) : List UInt8 := if v then l.map spOne else l
theorem spMap_len (v : Bool) (l : List UInt8) : (spMap v l).length = l.length := by unfold spMap; cases v <;> simp
def contF (l : List UInt8) (j : Nat) (v : Bool) : Nat → Nat → List UInt8 → List UInt8 × Int × Int
 | 0, _, out => (out, (j : Int), 0)
 | f + 1, i, out => if i < j then (if l.getD i 0 = 38 then (if (refAt (l.take j) i).2.2 = 0 then contF l j v f (refAt (l.take j) i).2.1.toNat (out ++ eb (refAt (l.take j) i).1) else ([], (i : Int), (refAt (l.take j) i).2.2))
   else contF l j v f (i + (chunk l i j).length) (out ++ spMap v (linesP (chunk l i j)))) else (out, (j : Int), 0)
def contP (l : List UInt8) (i j : Nat) (v : Bool) : List UInt8 × Int × Int := contF l j v (j + 1) i []
def rowK (ys : List UInt8) (k : Nat) : List UInt8 := (ys.take k).map spOne ++ ys.drop k
theorem rowK_len (ys : List UInt8) (k : Nat) : (rowK ys k).length = ys.length := by unfold rowK; rw [List.length_append, List.length_map, List.length_take, List.length_drop]; omega
theorem rowK_end (ys : List UInt8) : rowK ys ys.length = spMap true ys := by unfold rowK spMap; simp
theorem rowK_at (ys : List UInt8) (k : Nat) (h : k < ys.length) : (rowK ys k).getD k 0 = ys[k] := by
 unfold rowK
 rw [List.getD_eq_getElem?_getD, List.getElem?_append_right (by simp; omega)]
 simp [Nat.min_eq_left (Nat.le_of_lt h), h]
theorem rowK_yes (ys : List UInt8) (k : Nat) (h : k < ys.length) (hs : spB ys[k] = true) : (rowK ys k).set k 32 = rowK ys (k + 1) := by
 unfold rowK
 rw [List.set_append_right _ _ (by simp; omega), List.drop_eq_getElem_cons h]
 have e0 : k - ((ys.take k).map spOne).length = 0 := by simp; omega
 rw [e0, List.set_cons_zero, List.take_add_one, List.getElem?_eq_getElem h, show (some ys[k]).toList = [ys[k]] from rfl, List.map_append, List.map_cons, List.map_nil, show spOne ys[k] = 32 from if_pos hs, List.append_assoc]
 rfl
theorem rowK_no (ys : List UInt8) (k : Nat) (h : k < ys.length) (hs : spB ys[k] = false) : rowK ys k = rowK ys (k + 1) := by
 unfold rowK
 have ho : spOne ys[k] = ys[k] := by unfold spOne; rw [hs]; rfl
 rw [List.drop_eq_getElem_cons h, List.take_add_one, List.getElem?_eq_getElem h, show (some ys[k]).toList = [ys[k]] from rfl, List.map_append, List.map_cons, List.map_nil, ho, List.append_assoc]
 rfl
theorem chunk_at (l : List UInt8) (k j : Nat) (hk : k < j) (hl : k < l.length) : chunk l k j = if l[k] = 38 then [] else l[k] :: chunk l (k + 1) j := by
 unfold chunk
 rw [List.drop_eq_getElem_cons hl, show j - k = (j - (k + 1)) + 1 by omega, List.take_succ_cons]
 by_cases h : l[k] = 38
 ·rw [if_pos h, h, amp_amp]
 ·rw [if_neg h, amp_cons _ _ h]
theorem chunk_end (l : List UInt8) (j : Nat) : chunk l j j = [] := by unfold chunk; rw [Nat.sub_self, List.take_zero]; rfl
theorem tok_ext (s : ByteArray) (k m : Nat) : s.extract k m = oB ((s.data.toList.drop k).take (m - k)) := kext s k m
set_option maxHeartbeats 8000000 in
theorem tref_content (s : ByteArray) (i j : Nat) (v : Bool) (w : World) (hs : s.size ≤ 1000000) (hj : j ≤ s.size) (hij : i ≤ j) :
  Calls Tryz.prog 78 #[.string s, .int .i64 i, .int .i64 j, .bool v] w fun e w' => e = .returned (.tuple #[.string (oB (contP s.data.toList i j v).1), .int .i64 (contP s.data.toList i j v).2.1, .int .i64 (contP s.data.toList i j v).2.2]) ∧ Below w.heap.size w w' := by
 have hsl : s.data.toList.length = s.size := by simp
 have HSL := Lib.hid hsl
 have hto : ∀ wx, _ := fun wx => slice_to s (j : Int) (by omega) (by omega) wx
 rw [Int.toNat_natCast, tok_ext, List.drop_zero, Nat.sub_zero] at hto
 have hjz : (j : Int) ≤ 1000000 := by omega
 clear hsl
 go_enter Tryz.func78, Tryz.ntmps78
 go_wp2
 go_loopw [11, 12] (fun q a wr => ∃ (k f : Nat) (acc : List UInt8), k ≤ j ∧ a = .int .i64 k ∧ q = .string (oB acc) ∧ (contP s.data.toList i j v = contF s.data.toList j v f k acc ∧ j - k < f) ∧ acc.length ≤ 4 * k ∧ Below w.heap.size w wr) (fun _ a _ => j - (intOf a).toNat)
 case atStart => exact ⟨i, j + 1, [], hij, rfl, rfl, ⟨rfl, by omega⟩, by simp, Below.refl _ _⟩
 case round =>
  obtain ⟨k, f, acc, hk, rfl, rfl, ⟨hrel, hf⟩, hal, hbel⟩ := hrel
  have hz := hbel.size
  obtain ⟨f, rfl⟩ : ∃ g, f = g + 1 := ⟨f - 1, by omega⟩
  have ha6 : (oB acc).size ≤ 4000000 := by rw [oBz]; omega
  rw [contF] at hrel
  by_cases hlt : k < j
  ·have hks : k < s.size := by omega
   have hkl : k < s.data.toList.length := by have := HSL.out; omega
   obtain ⟨y, hy⟩ : ∃ y, s[k]'hks = y := ⟨_, rfl⟩
   have hyl : s.data.toList[k]'hkl = y := by rw [← hy]; simp [ByteArray.getElem_eq_getElem_data]
   have hgd : s.data.toList.getD k 0 = y := by rw [List.getD_eq_getElem?_getD, List.getElem?_eq_getElem hkl, hyl]; rfl
   have hkz : (k : Int) < (j : Int) := by omega
   have hksz : (k : Int) < (s.size : Int) := by omega
   rw [if_pos hlt] at hrel
   by_cases hamp : y = 38
   ·subst hamp
    rw [if_pos hgd] at hrel
    have htl : (s.data.toList.take j).length = j := by rw [List.length_take]; have := HSL.out; omega
    have hgt : (s.data.toList.take j).getD k 0 = 38 := by rw [List.getD_eq_getElem?_getD, List.getElem?_take, if_pos hlt, ← List.getD_eq_getElem?_getD]; exact hgd
    have cR : ∀ wx, _ := fun wx => eref_Reference (oB (s.data.toList.take j)) (k : Int) wx (by rw [oBz, htl]; omega)
    rw [oBl, refP_at _ _ (by rw [htl]; exact hlt) hgt] at cR
    rcases refAt_cases (s.data.toList.take j) k with hr | ⟨r, n, hr, h1, h2, h3, h4, h5⟩
    ·rw [hr] at cR hrel
     have HR := Lib.hid (hrel.trans (if_neg (by decide)))
     clear hrel hr hgd hgt hyl
     (go_wp2_with fail); (refine (cR _).mono ?_); (rintro e w' ⟨rfl, rfl⟩)
     go_wp2
     exact bodyPost_ret (v := .tuple #[.string ⟨#[]⟩, .int .i64 k, .int .i64 12]) (by simp [results, Tryz.results78, go_sem]) rfl ⟨by rw [HR.out]; rfl, hbel⟩
    ·rw [hr] at cR hrel
     rw [htl] at h2
     have HR := Lib.hid (hrel.trans (if_pos rfl))
     have cE : ∀ wx, _ := fun wx => ref_Encode r wx
     rw [eb_str] at cE
     have hebl := eb_len r
     have hes : (oB (eb r)).size ≤ 4 := by rw [oBz]; exact hebl
     have HAP := Lib.hid (eob_app acc (eb r))
     clear hrel hr hgd hgt hyl h3
     (go_wp2_with fail); (refine (cR _).mono ?_); (rintro e w' ⟨rfl, rfl⟩)
     go_wp2_with fail
     refine (cE _).mono ?_
     rintro e w2 ⟨rfl, b2⟩
     go_wp2
     go_roundw
     case rel => exact ⟨n, f, acc ++ eb r, h2, rfl, by rw [HAP.out], ⟨HR.out, by omega⟩, by rw [List.length_append]; omega, hbel.trans (b2.mono hz)⟩
     case measure => simp [intOf]; omega
   ·rw [if_neg (by rw [hgd]; exact hamp)] at hrel
    have HR := Lib.hid hrel
    have hyb : ((y.toNat : Int) == 38) = false := by
     have : ¬ ((y.toNat : Int) = 38) := fun h => hamp ((ku8_int (n := 38) (by omega)).2 h)
     simpa using this
    have hch := chunk_at s.data.toList k j hlt hkl
    rw [hyl, if_neg hamp] at hch
    have HCH := Lib.hid hch
    clear hrel hgd hyl hch hamp
    go_wp2
    go_loop [16] (fun q => ∃ m : Nat, k ≤ m ∧ m ≤ j ∧ q = .int .i64 m ∧ chunk s.data.toList k j = (s.data.toList.drop k).take (m - k) ++ chunk s.data.toList m j) (fun q => j - (intOf q).toNat)
    case atStart => exact ⟨k, Nat.le_refl _, hk, rfl, by simp⟩
    case round =>
     obtain ⟨m, hkm, hmj, rfl, hcr⟩ := hrel
     by_cases hm : m < j
     ·have hms : m < s.size := by omega
      have hml : m < s.data.toList.length := by have := HSL.out; omega
      obtain ⟨z, hzx⟩ : ∃ z, s[m]'hms = z := ⟨_, rfl⟩
      have hzl : s.data.toList[m]'hml = z := by rw [← hzx]; simp [ByteArray.getElem_eq_getElem_data]
      have hmz : (m : Int) < (j : Int) := by omega
      rw [chunk_at s.data.toList m j hm hml, hzl] at hcr
      by_cases hz38 : z = 38
      ·subst hz38
       rw [if_pos rfl, List.append_nil] at hcr
       have hC := hcr
       clear hcr hzl
       have hlen : (chunk s.data.toList k j).length = m - k := by rw [hC, List.length_take, List.length_drop]; have := HSL.out; omega
       have hm1 : k < m := by have h1 := congrArg List.length HCH.out; rw [List.length_cons] at h1; omega
       have hsc : ∀ wx, _ := fun wx => slice_mid s (k : Int) (m : Int) (by omega) (by omega) (by omega) wx
       rw [Int.toNat_natCast, Int.toNat_natCast, tok_ext, ← hC] at hsc
       have hr2 := HR.out
       rw [hlen, show k + (m - k) = m by omega] at hr2
       have HR2 := Lib.hid hr2
       have cL : ∀ wx, _ := fun wx => tref_Lines (oB (chunk s.data.toList k j)) wx (by rw [oBz, hlen]; omega)
       rw [oBl] at cL
       have hYl := linesP_len (chunk s.data.toList k j)
       rw [hlen] at hYl
       have hml6 : (m : Int) ≤ 1000000 := by omega
       clear hr2 HR HCH hC hlen
       generalize linesP (chunk s.data.toList k j) = Y at *
       generalize oB (chunk s.data.toList k j) = CB at *
       go_wp2_with fail
       refine (cL _).mono ?_
       rintro e w2 ⟨rfl, b2⟩
       have hcv := Lib.run_convert_string_bytes (P := Tryz.prog) w2 9 44 5 (oB Y) Tryz.underlying9 Tryz.underlying44 Tryz.underlying5
       have hrow := RowAt.conv w2 5 (oB Y)
       rw [oBl] at hrow
       have hcb := conv_below w2 5 (oB Y)
       have hbs : w2.heap.size < (Lib.bytesWorld w2 5 (oB Y)).heap.size := by rw [Lib.bytesWorld_size]; omega
       have hYz : (oB Y).size = Y.length := oBz Y
       have hYs : (Y.length : Int) ≤ 1000000 := by omega
       have b23 : Below w.heap.size w (Lib.bytesWorld w2 5 (oB Y)) := hbel.trans ((b2.trans (hcb.mono b2.size)).mono hz)
       rw [hYz] at hcv
       generalize Lib.bytesWorld w2 5 (oB Y) = w3 at *
       generalize Go.grownCap w2 Y.length 0 5 = cp at *
       have hbk2 : w.heap.size ≤ w2.heap.size := Nat.le_trans hz b2.size
       generalize w2.heap.size = bk at *
       go_wp2
       rcases v with _ | _
       ·go_loop [18] (fun q => ∃ n : Nat, n ≤ Y.length ∧ q = .int .i64 n) (fun q => Y.length - (intOf q).toNat)
        case atStart => exact ⟨0, by omega, rfl⟩
        case round =>
         obtain ⟨n, hn, rfl⟩ := hrel
         by_cases hnl : n < Y.length
         ·have hnz : (n : Int) < (Y.length : Int) := by omega
          go_wp2
          go_round
          case rel => exact ⟨n + 1, by omega, by go_num⟩
          case measure => simp [intOf]; omega
         ·obtain rfl : n = Y.length := by omega
          have hback := hrow.back (P := Tryz.prog) (cap := cp) (src := 44) (dst := 9) Tryz.underlying44 Tryz.underlying5 Tryz.underlying9
          have HAP := Lib.hid (eob_app acc Y)
          have hYb : (oB Y).size ≤ 1000000 := by omega
          go_wp2
          go_roundw
          case rel => exact ⟨m, f, acc ++ Y, hmj, rfl, by rw [HAP.out], ⟨HR2.out, by omega⟩, by rw [List.length_append]; omega, b23⟩
          case measure => simp [intOf]; omega
       ·go_loopw [18] (fun q wx => ∃ n : Nat, n ≤ Y.length ∧ q = .int .i64 n ∧ RowAt wx bk (rowK Y n) ∧ Below bk w3 wx) (fun q _ => Y.length - (intOf q).toNat)
        case atStart => exact ⟨0, by omega, rfl, hrow, Below.refl _ _⟩
        case round =>
         obtain ⟨n, hn, rfl, hra, hrb⟩ := hrel
         by_cases hnl : n < Y.length
         ·have hnz : (n : Int) < (Y.length : Int) := by omega
          have hld := (hra n (by rw [rowK_len]; exact hnl)).1
          have hfz := (hra n (by rw [rowK_len]; exact hnl)).2
          rw [rowK_at Y n hnl] at hld
          obtain ⟨c, hc⟩ : ∃ c, Y[n] = c := ⟨_, rfl⟩
          rw [hc] at hld
          have cS : ∀ wx, _ := fun wx => ref_IsSpace (c.toNat : Int) wx
          rcases hsp : spB c with _ | _
          ·rw [show isSpaceB (c.toNat : Int) = false from hsp] at cS
           have R := rowK_no Y n hnl (by rw [hc]; exact hsp)
           have HRA := Lib.hid hra
           have HK := Lib.hid R
           clear hra R hc hsp
           (go_wp2_with fail); (refine (cS _).mono ?_); (rintro e w' ⟨rfl, rfl⟩)
           go_wp2
           go_roundw
           case rel => exact ⟨n + 1, by omega, by go_num, by have h := HRA.out; rw [HK.out] at h; exact h, hrb⟩
           case measure => simp [intOf]; omega
          ·rw [show isSpaceB (c.toNat : Int) = true from hsp] at cS
           have hset := hra.set (k := n) (by rw [rowK_len]; exact hnl) 32
           rw [rowK_yes Y n hnl (by rw [hc]; exact hsp)] at hset
           have HSET := Lib.hid hset
           have hrb2 := hrb.setCell (p := ⟨bk, n, none⟩) (Nat.le_refl _) (.int .u8 32)
           clear hra hset hc hsp
           (go_wp2_with fail); (refine (cS _).mono ?_); (rintro e w' ⟨rfl, rfl⟩)
           go_wp2
           go_roundw
           case rel => exact ⟨n + 1, by omega, by go_num, HSET.out, hrb2⟩
           case measure => simp [intOf]; omega
         ·obtain rfl : n = Y.length := by omega
          rw [rowK_end] at hra
          have hsm := spMap_len true Y
          have hback := hra.back (P := Tryz.prog) (cap := cp) (src := 44) (dst := 9) Tryz.underlying44 Tryz.underlying5 Tryz.underlying9
          rw [hsm] at hback
          have HAP := Lib.hid (eob_app acc (spMap true Y))
          have hYb : (oB (spMap true Y)).size ≤ 1000000 := by rw [oBz]; omega
          have HSM := Lib.hid hsm
          clear hsm hra
          go_wp2
          go_roundw
          case rel => exact ⟨m, f, acc ++ spMap true Y, hmj, rfl, by rw [HAP.out], ⟨HR2.out, by omega⟩, by rw [List.length_append, HSM.out]; omega, b23.trans (hrb.mono hbk2)⟩
          case measure => simp [intOf]; omega
      ·rw [if_neg hz38] at hcr
       have hzb : ((z.toNat : Int) != 38) = true := by
        have : ¬ ((z.toNat : Int) = 38) := fun h => hz38 ((ku8_int (n := 38) (by omega)).2 h)
        simpa using this
       have R : chunk s.data.toList k j = (s.data.toList.drop k).take (m + 1 - k) ++ chunk s.data.toList (m + 1) j := by
        rw [hcr, show m + 1 - k = (m - k) + 1 by omega, List.take_add_one, List.getElem?_drop, show k + (m - k) = m by omega, List.getElem?_eq_getElem hml, hzl]
        simp
       have HRR := Lib.hid R
       clear R hcr hzl hz38
       go_wp2
       go_round
       case rel => exact ⟨m + 1, by omega, by omega, by go_num, HRR.out⟩
       case measure => simp [intOf]; omega
     ·have hce : chunk s.data.toList m j = [] := by rw [show m = j by omega, chunk_end]
      rw [hce, List.append_nil] at hcr
      have hmz : ¬ (m : Int) < (j : Int) := by omega
      have hC := hcr
      clear hcr
      have hlen : (chunk s.data.toList k j).length = m - k := by rw [hC, List.length_take, List.length_drop]; have := HSL.out; omega
      have hm1 : k < m := by have h1 := congrArg List.length HCH.out; rw [List.length_cons] at h1; omega
      have hsc : ∀ wx, _ := fun wx => slice_mid s (k : Int) (m : Int) (by omega) (by omega) (by omega) wx
      rw [Int.toNat_natCast, Int.toNat_natCast, tok_ext, ← hC] at hsc
      have hr2 := HR.out
      rw [hlen, show k + (m - k) = m by omega] at hr2
      have HR2 := Lib.hid hr2
      have cL : ∀ wx, _ := fun wx => tref_Lines (oB (chunk s.data.toList k j)) wx (by rw [oBz, hlen]; omega)
      rw [oBl] at cL
      have hYl := linesP_len (chunk s.data.toList k j)
      rw [hlen] at hYl
      have hml6 : (m : Int) ≤ 1000000 := by omega
      clear hr2 HR HCH hC hlen
      generalize linesP (chunk s.data.toList k j) = Y at *
      generalize oB (chunk s.data.toList k j) = CB at *
      go_wp2_with fail
      refine (cL _).mono ?_
      rintro e w2 ⟨rfl, b2⟩
      have hcv := Lib.run_convert_string_bytes (P := Tryz.prog) w2 9 44 5 (oB Y) Tryz.underlying9 Tryz.underlying44 Tryz.underlying5
      have hrow := RowAt.conv w2 5 (oB Y)
      rw [oBl] at hrow
      have hcb := conv_below w2 5 (oB Y)
      have hbs : w2.heap.size < (Lib.bytesWorld w2 5 (oB Y)).heap.size := by rw [Lib.bytesWorld_size]; omega
      have hYz : (oB Y).size = Y.length := oBz Y
      have hYs : (Y.length : Int) ≤ 1000000 := by omega
      have b23 : Below w.heap.size w (Lib.bytesWorld w2 5 (oB Y)) := hbel.trans ((b2.trans (hcb.mono b2.size)).mono hz)
      rw [hYz] at hcv
      generalize Lib.bytesWorld w2 5 (oB Y) = w3 at *
      generalize Go.grownCap w2 Y.length 0 5 = cp at *
      have hbk2 : w.heap.size ≤ w2.heap.size := Nat.le_trans hz b2.size
      generalize w2.heap.size = bk at *
      go_wp2
      rcases v with _ | _
      ·go_loop [18] (fun q => ∃ n : Nat, n ≤ Y.length ∧ q = .int .i64 n) (fun q => Y.length - (intOf q).toNat)
       case atStart => exact ⟨0, by omega, rfl⟩
       case round =>
        obtain ⟨n, hn, rfl⟩ := hrel
        by_cases hnl : n < Y.length
        ·have hnz : (n : Int) < (Y.length : Int) := by omega
         go_wp2
         go_round
         case rel => exact ⟨n + 1, by omega, by go_num⟩
         case measure => simp [intOf]; omega
        ·obtain rfl : n = Y.length := by omega
         have hback := hrow.back (P := Tryz.prog) (cap := cp) (src := 44) (dst := 9) Tryz.underlying44 Tryz.underlying5 Tryz.underlying9
         have HAP := Lib.hid (eob_app acc Y)
         have hYb : (oB Y).size ≤ 1000000 := by omega
         go_wp2
         go_roundw
         case rel => exact ⟨m, f, acc ++ Y, hmj, rfl, by rw [HAP.out], ⟨HR2.out, by omega⟩, by rw [List.length_append]; omega, b23⟩
         case measure => simp [intOf]; omega
      ·go_loopw [18] (fun q wx => ∃ n : Nat, n ≤ Y.length ∧ q = .int .i64 n ∧ RowAt wx bk (rowK Y n) ∧ Below bk w3 wx) (fun q _ => Y.length - (intOf q).toNat)
       case atStart => exact ⟨0, by omega, rfl, hrow, Below.refl _ _⟩
       case round =>
        obtain ⟨n, hn, rfl, hra, hrb⟩ := hrel
        by_cases hnl : n < Y.length
        ·have hnz : (n : Int) < (Y.length : Int) := by omega
         have hld := (hra n (by rw [rowK_len]; exact hnl)).1
         have hfz := (hra n (by rw [rowK_len]; exact hnl)).2
         rw [rowK_at Y n hnl] at hld
         obtain ⟨c, hc⟩ : ∃ c, Y[n] = c := ⟨_, rfl⟩
         rw [hc] at hld
         have cS : ∀ wx, _ := fun wx => ref_IsSpace (c.toNat : Int) wx
         rcases hsp : spB c with _ | _
         ·rw [show isSpaceB (c.toNat : Int) = false from hsp] at cS
          have R := rowK_no Y n hnl (by rw [hc]; exact hsp)
          have HRA := Lib.hid hra
          have HK := Lib.hid R
          clear hra R hc hsp
          (go_wp2_with fail); (refine (cS _).mono ?_); (rintro e w' ⟨rfl, rfl⟩)
          go_wp2
          go_roundw
          case rel => exact ⟨n + 1, by omega, by go_num, by have h := HRA.out; rw [HK.out] at h; exact h, hrb⟩
          case measure => simp [intOf]; omega
         ·rw [show isSpaceB (c.toNat : Int) = true from hsp] at cS
          have hset := hra.set (k := n) (by rw [rowK_len]; exact hnl) 32
          rw [rowK_yes Y n hnl (by rw [hc]; exact hsp)] at hset
          have HSET := Lib.hid hset
          have hrb2 := hrb.setCell (p := ⟨bk, n, none⟩) (Nat.le_refl _) (.int .u8 32)
          clear hra hset hc hsp
          (go_wp2_with fail); (refine (cS _).mono ?_); (rintro e w' ⟨rfl, rfl⟩)
          go_wp2
          go_roundw
          case rel => exact ⟨n + 1, by omega, by go_num, HSET.out, hrb2⟩
          case measure => simp [intOf]; omega
        ·obtain rfl : n = Y.length := by omega
         rw [rowK_end] at hra
         have hsm := spMap_len true Y
         have hback := hra.back (P := Tryz.prog) (cap := cp) (src := 44) (dst := 9) Tryz.underlying44 Tryz.underlying5 Tryz.underlying9
         rw [hsm] at hback
         have HAP := Lib.hid (eob_app acc (spMap true Y))
         have hYb : (oB (spMap true Y)).size ≤ 1000000 := by rw [oBz]; omega
         have HSM := Lib.hid hsm
         clear hsm hra
         go_wp2
         go_roundw
         case rel => exact ⟨m, f, acc ++ spMap true Y, hmj, rfl, by rw [HAP.out], ⟨HR2.out, by omega⟩, by rw [List.length_append, HSM.out]; omega, b23.trans (hrb.mono hbk2)⟩
         case measure => simp [intOf]; omega
  ·obtain rfl : k = j := by omega
   rw [if_neg hlt] at hrel
   have HR := Lib.hid hrel
   clear hrel
   go_wp2
   exact bodyPost_ret (v := .tuple #[.string (oB acc), .int .i64 k, .int .i64 0]) (by simp [results, Tryz.results78, go_sem]) rfl ⟨by rw [HR.out], hbel⟩
def tokV (kind : Int) (name txt : List UInt8) (at' : Int) : Value := .agg #[.int .i64 kind, .string (oB name), .slice none 0 0, .bool false, .string (oB txt), .int .i64 at']
def endP (s : ByteArray) (i : Nat) : List UInt8 × Int × Int :=
 if nmP s (i + 2) = i + 2 then ([], misP s.size i ((i + 2 : Nat) : Int))
 else if hasP s.data.toList ((spP s.data.toList (nmP s (i + 2)) : Nat) : Int) [62] then ((s.data.toList.drop (i + 2)).take (nmP s (i + 2) - (i + 2)), ((spP s.data.toList (nmP s (i + 2)) : Nat) : Int) + 1, 0)
 else ((s.data.toList.drop (i + 2)).take (nmP s (i + 2) - (i + 2)), misP s.size i ((spP s.data.toList (nmP s (i + 2)) : Nat) : Int))
theorem cSs {w : World} {p : Addr} (v : Value) (h : (w.cell? p).isSome = true) : (w.setCell p v).cell? p = some v := by
 obtain ⟨u, hu⟩ := Option.isSome_iff_exists.mp h
 exact World.cell?_setCell_same w p v hu
theorem endP_def (s : ByteArray) (i : Nat) : endP s i = (if nmP s (i + 2) = i + 2 then ([], misP s.size i ((i + 2 : Nat) : Int))
 else if hasP s.data.toList ((spP s.data.toList (nmP s (i + 2)) : Nat) : Int) [62] then ((s.data.toList.drop (i + 2)).take (nmP s (i + 2) - (i + 2)), ((spP s.data.toList (nmP s (i + 2)) : Nat) : Int) + 1, 0)
 else ((s.data.toList.drop (i + 2)).take (nmP s (i + 2) - (i + 2)), misP s.size i ((spP s.data.toList (nmP s (i + 2)) : Nat) : Int))) := rfl
set_option maxHeartbeats 8000000 in
theorem tref_end (s : ByteArray) (i : Nat) (w : World) (hs : s.size ≤ 1000000) (hi : i + 2 ≤ s.size) :
  Calls Tryz.prog 75 #[.string s, .int .i64 i] w fun e w' => e = .returned (.tuple #[tokV 2 (endP s i).1 [] i, .int .i64 (endP s i).2.1, .int .i64 (endP s i).2.2]) ∧ Below w.heap.size w w' := by
 have hsl : s.data.toList.length = s.size := by simp
 have c1 : ∀ wx, _ := fun wx => tref_name s (i + 2) wx hs (by omega)
 rw [show ((i + 2 : Nat) : Int) = (i : Int) + 2 by omega] at c1
 have hb := nmP_le s (i + 2) (by omega)
 have hE := endP_def s i
 generalize nmP s (i + 2) = n at *
 obtain ⟨hb1, hb2⟩ := hb
 have hk := spP_le s.data.toList n (by omega)
 rw [hsl] at hk
 have c2 : ∀ wx, _ := fun wx => tref_spaces s n wx hs (by omega)
 generalize spP s.data.toList n = k at *
 obtain ⟨hk1, hk2⟩ := hk
 have c3 : ∀ q wx, _ := fun q wx => tref_missing s i q wx
 have c4 : ∀ wx, _ := fun wx => tref_Has s ⟨#[62]⟩ (k : Int) wx hs (by decide) (by decide) (by omega)
 rw [show (⟨#[62]⟩ : ByteArray).data.toList = [62] from rfl] at c4
 have hi2 : (i : Int) ≤ 1000000 := by omega
 have hn2 : (n : Int) ≤ 1000000 := by omega
 have hk3 : (k : Int) ≤ 1000000 := by omega
 have hsc : ∀ wx, _ := fun wx => slice_mid s ((i : Int) + 2) (n : Int) (by omega) (by omega) (by omega) wx
 rw [show ((i : Int) + 2).toNat = i + 2 by omega, Int.toNat_natCast, kext] at hsc
 generalize (s.data.toList.drop (i + 2)).take (n - (i + 2)) = N at *
 clear hsl
 go_enter Tryz.func75, Tryz.ntmps75
 go_wp2_with fail
 refine (c1 _).mono ?_
 rintro e w1 ⟨rfl, b1⟩
 have cc : ∀ (o q : Nat) (u : Value), (#[Value.int .i64 2, .string ⟨#[]⟩, .slice none 0 0, .bool false, .string ⟨#[]⟩, .int .i64 (i : Int)] : Array Value)[o]? = some u → w1.cell? ⟨w.heap.size + 1, o, none⟩ = some u := by
  intro o q u hu
  refine (b1.cell (p := ⟨w.heap.size + 1, o, none⟩) (by simp)).trans ?_
  rw [World.cell?_alloc_at _ _ _ _ (by simp)]
  exact hu
 have d0 := cc 0 0 _ rfl
 have d1 := cc 1 0 _ rfl
 have d2 := cc 2 0 _ rfl
 have d3 := cc 3 0 _ rfl
 have d4 := cc 4 0 _ rfl
 have d5 := cc 5 0 _ rfl
 clear cc
 have p1 : w1.frozen? ⟨w.heap.size + 1, 1, none⟩ = false := by
  refine (b1.frozen (p := ⟨w.heap.size + 1, 1, none⟩) (by simp)).trans ?_
  rw [World.frozen?_alloc_at _ _ _ _ (by simp)]
 have rr : ∀ (o : Nat) (u : Value), (#[Value.int .i64 0, .string ⟨#[]⟩, .slice none 0 0, .bool false, .string ⟨#[]⟩, .int .i64 0] : Array Value)[o]? = some u → w1.cell? ⟨w.heap.size, o, none⟩ = some u ∧ w1.frozen? ⟨w.heap.size, o, none⟩ = false := by
  intro o u hu
  refine ⟨(b1.cell (p := ⟨w.heap.size, o, none⟩) (by simp; omega)).trans ?_, (b1.frozen (p := ⟨w.heap.size, o, none⟩) (by simp; omega)).trans ?_⟩
  ·rw [World.cell?_alloc_past _ _ _ (by simp), World.cell?_alloc_at _ _ _ _ rfl]; exact hu
  ·rw [World.frozen?_alloc_past _ _ _ (by simp), World.frozen?_alloc_at _ _ _ _ rfl]
 obtain ⟨r0, q0⟩ := rr 0 _ rfl
 obtain ⟨r1, q1⟩ := rr 1 _ rfl
 obtain ⟨r2, q2⟩ := rr 2 _ rfl
 obtain ⟨r3, q3⟩ := rr 3 _ rfl
 obtain ⟨r4, q4⟩ := rr 4 _ rfl
 obtain ⟨r5, q5⟩ := rr 5 _ rfl
 clear rr
 simp only [List.getElem_toArray, List.getElem_cons_zero, List.getElem_cons_succ] at d0 d1 d2 d3 d4 d5 r0 r1 r2 r3 r4 r5
 have hbw : Below w.heap.size w w1 := ((((Below.refl _ _).alloc (Nat.le_refl _) _).alloc (by simp) _)).trans (b1.mono (by simp; omega))
 have c3 : ∀ k wx, _ := fun k wx => tref_missing s i k wx
 by_cases hn : n = i + 2
 ·rw [if_pos hn] at hE
  have hm := c3 ((n : Nat) : Int)
  rw [hn] at hm
  generalize misP s.size i ((i + 2 : Nat) : Int) = mm at *
  obtain ⟨m1, m2⟩ := mm
  simp only at hm
  have HE := Lib.hid hE
  have HB := Lib.hid hbw
  subst hn
  rw [show ((i + 2 : Nat) : Int) = (i : Int) + 2 by omega] at hm
  clear b1 c1 c2 c3 c4 hE hbw hsc
  go_wp2_with fail
  refine (hm _).mono ?_
  rintro e w' ⟨rfl, rfl⟩
  go_wp2
  exact bodyPost_ret (v := .tuple #[tokV 2 [] [] i, .int .i64 m1, .int .i64 m2]) (by simp [results, Tryz.results75, go_sem, tokV, oB, cSs, r0, r1, r2, r3, r4, r5]) rfl ⟨by rw [HE.out], ((((((HB.out.setCell (p := ⟨w.heap.size, 0, none⟩) (Nat.le_refl _) _).setCell (p := ⟨w.heap.size, 1, none⟩) (Nat.le_refl _) _).setCell (p := ⟨w.heap.size, 2, none⟩) (Nat.le_refl _) _).setCell (p := ⟨w.heap.size, 3, none⟩) (Nat.le_refl _) _).setCell (p := ⟨w.heap.size, 4, none⟩) (Nat.le_refl _) _).setCell (p := ⟨w.heap.size, 5, none⟩) (Nat.le_refl _) _)⟩
 ·rw [if_neg hn] at hE
  have hlt : (i : Int) + 2 < (n : Int) := by omega
  have HB0 := Lib.hid hbw
  rcases hh : hasP s.data.toList (k : Int) [62] with _ | _
  ·rw [hh] at hE c4
   rw [if_neg (by decide)] at hE
   have hm := c3 ((k : Nat) : Int)
   generalize misP s.size i ((k : Nat) : Int) = mm at *
   obtain ⟨m1, m2⟩ := mm
   simp only at hm
   have HE := Lib.hid hE
   clear b1 c1 c3 hE hbw hh hn
   go_wp2_with fail
   refine (c2 _).mono ?_
   rintro e w' ⟨rfl, rfl⟩
   (go_wp2_with fail); (refine (c4 _).mono ?_); (rintro e w' ⟨rfl, rfl⟩)
   go_wp2_with fail
   refine (hm _).mono ?_
   rintro e w' ⟨rfl, rfl⟩
   go_wp2
   have HB := Lib.hid (HB0.out.setCell (p := ⟨w.heap.size + 1, 1, none⟩) (by simp) (.string (oB N)))
   exact bodyPost_ret (v := .tuple #[tokV 2 N [] i, .int .i64 m1, .int .i64 m2]) (by simp [results, Tryz.results75, go_sem, tokV, oB, cSs, r0, r1, r2, r3, r4, r5]) rfl ⟨by rw [HE.out], ((((((HB.out.setCell (p := ⟨w.heap.size, 0, none⟩) (Nat.le_refl _) _).setCell (p := ⟨w.heap.size, 1, none⟩) (Nat.le_refl _) _).setCell (p := ⟨w.heap.size, 2, none⟩) (Nat.le_refl _) _).setCell (p := ⟨w.heap.size, 3, none⟩) (Nat.le_refl _) _).setCell (p := ⟨w.heap.size, 4, none⟩) (Nat.le_refl _) _).setCell (p := ⟨w.heap.size, 5, none⟩) (Nat.le_refl _) _)⟩
  ·rw [hh] at hE c4
   rw [if_pos rfl] at hE
   have HE := Lib.hid hE
   clear b1 c1 c3 hE hbw hh hn
   go_wp2_with fail
   refine (c2 _).mono ?_
   rintro e w' ⟨rfl, rfl⟩
   (go_wp2_with fail); (refine (c4 _).mono ?_); (rintro e w' ⟨rfl, rfl⟩)
   go_wp2
   have HB := Lib.hid (HB0.out.setCell (p := ⟨w.heap.size + 1, 1, none⟩) (by simp) (.string (oB N)))
   exact bodyPost_ret (v := .tuple #[tokV 2 N [] i, .int .i64 ((k : Int) + 1), .int .i64 0]) (by simp [results, Tryz.results75, go_sem, tokV, oB, cSs, r0, r1, r2, r3, r4, r5]) rfl ⟨by rw [HE.out], ((((((HB.out.setCell (p := ⟨w.heap.size, 0, none⟩) (Nat.le_refl _) _).setCell (p := ⟨w.heap.size, 1, none⟩) (Nat.le_refl _) _).setCell (p := ⟨w.heap.size, 2, none⟩) (Nat.le_refl _) _).setCell (p := ⟨w.heap.size, 3, none⟩) (Nat.le_refl _) _).setCell (p := ⟨w.heap.size, 4, none⟩) (Nat.le_refl _) _).setCell (p := ⟨w.heap.size, 5, none⟩) (Nat.le_refl _) _)⟩
def quoAt (l : List UInt8) (x : UInt8) (e : Nat) : Nat := e + ((l.drop e).takeWhile fun c => c != x && c != 60).length
theorem quoAt_end (l : List UInt8) (x : UInt8) (e : Nat) (h : l.length ≤ e) : quoAt l x e = e := by unfold quoAt; rw [List.drop_eq_nil_of_le h]; rfl
theorem quoAt_no (l : List UInt8) (x y : UInt8) (e : Nat) (h : e < l.length) (hy : l[e] = y) (hs : (y != x && y != 60) = false) : quoAt l x e = e := by
 unfold quoAt; rw [List.drop_eq_getElem_cons h, List.takeWhile_cons, hy, if_neg (by rw [hs]; decide)]; rfl
theorem quoAt_yes (l : List UInt8) (x y : UInt8) (e : Nat) (h : e < l.length) (hy : l[e] = y) (hs : (y != x && y != 60) = true) : quoAt l x e = quoAt l x (e + 1) := by
 unfold quoAt; rw [List.drop_eq_getElem_cons h, List.takeWhile_cons, hy, if_pos hs, List.length_cons]; omega
theorem hasP_one (l : List UInt8) (m : Nat) (c : UInt8) (h : hasP l (m : Int) [c] = true) : ∃ hm : m < l.length, l[m] = c := by
 unfold hasP at h
 rw [Bool.and_eq_true, Int.toNat_natCast] at h
 obtain ⟨_, h⟩ := h
 rcases Nat.lt_or_ge m l.length with hm | hm
 ·refine ⟨hm, ?_⟩
  rw [List.drop_eq_getElem_cons hm, List.isPrefixOf, Bool.and_eq_true] at h
  exact (beq_iff_eq.mp h.1).symm
 ·rw [List.drop_eq_nil_of_le hm] at h; simp at h
def attrV (name value : List UInt8) (at' : Int) : Value := .agg #[.string ⟨#[]⟩, .string (oB name), .string (oB value), .int .i64 at']
def attr4 (s : ByteArray) (i : Nat) (N : List UInt8) (e : Nat) (c : List UInt8 × Int × Int) : (List UInt8 × List UInt8) × Int × Int :=
 if c.2.2 ≠ 0 then ((N, []), c.2.1, c.2.2) else if e = s.size then ((N, []), (i : Int), 8) else if s.data.toList.getD e 0 = 60 then ((N, []), (e : Int), 7) else ((N, c.1), (e : Int) + 1, 0)
def attr3 (s : ByteArray) (i : Nat) (N : List UInt8) (m e : Nat) : (List UInt8 × List UInt8) × Int × Int := attr4 s i N e (contP s.data.toList (m + 1) e true)
def attr2 (s : ByteArray) (i : Nat) (N : List UInt8) (m : Nat) : (List UInt8 × List UInt8) × Int × Int :=
 if hasP s.data.toList (m : Int) [34] then attr3 s i N m (quoAt s.data.toList 34 (m + 1)) else if hasP s.data.toList (m : Int) [39] then attr3 s i N m (quoAt s.data.toList 39 (m + 1)) else ((N, []), misP s.size i (m : Int))
def attr1 (s : ByteArray) (i : Nat) (N : List UInt8) (k : Nat) : (List UInt8 × List UInt8) × Int × Int :=
 if hasP s.data.toList (k : Int) [61] then attr2 s i N (spP s.data.toList (k + 1)) else ((N, []), misP s.size i (k : Int))
def attrP (s : ByteArray) (i a : Nat) : (List UInt8 × List UInt8) × Int × Int :=
 if nmP s a = a then (([], []), misP s.size i (a : Int)) else attr1 s i ((s.data.toList.drop a).take (nmP s a - a)) (spP s.data.toList (nmP s a))
theorem attrP_def (s : ByteArray) (i a : Nat) : attrP s i a = (if nmP s a = a then (([], []), misP s.size i (a : Int)) else attr1 s i ((s.data.toList.drop a).take (nmP s a - a)) (spP s.data.toList (nmP s a))) := rfl
theorem attr4_err {s : ByteArray} {i : Nat} {N : List UInt8} {e : Nat} {V : List UInt8} {c1 c2 : Int} (h : c2 ≠ 0) : attr4 s i N e (V, c1, c2) = ((N, []), c1, c2) := if_pos h
theorem attr4_eof {s : ByteArray} {i : Nat} {N : List UInt8} {e : Nat} {V : List UInt8} {c1 : Int} (h : e = s.size) : attr4 s i N e (V, c1, 0) = ((N, []), (i : Int), 8) := (if_neg (by simp)).trans (if_pos h)
theorem attr4_lt {s : ByteArray} {i : Nat} {N : List UInt8} {e : Nat} {V : List UInt8} {c1 : Int} (h : e < s.size) (hl : e < s.data.toList.length) (hy : s.data.toList[e] = 60) : attr4 s i N e (V, c1, 0) = ((N, []), (e : Int), 7) :=
 (if_neg (by simp)).trans ((if_neg (by omega)).trans (if_pos (by rw [List.getD_eq_getElem?_getD, List.getElem?_eq_getElem hl, hy]; rfl)))
theorem attr4_ok {s : ByteArray} {i : Nat} {N : List UInt8} {e : Nat} {V : List UInt8} {c1 : Int} {y : UInt8} (h : e < s.size) (hl : e < s.data.toList.length) (hy : s.data.toList[e] = y) (h60 : y ≠ 60) : attr4 s i N e (V, c1, 0) = ((N, V), (e : Int) + 1, 0) :=
 (if_neg (by simp)).trans ((if_neg (by omega)).trans (if_neg (by rw [List.getD_eq_getElem?_getD, List.getElem?_eq_getElem hl, hy]; exact h60)))
set_option maxHeartbeats 8000000 in
theorem tref_attr (s : ByteArray) (i a : Nat) (w : World) (hs : s.size ≤ 1000000) (hi : i ≤ s.size) (ha : a ≤ s.size) :
  Calls Tryz.prog 99 #[.string s, .int .i64 i, .int .i64 a] w fun e w' => e = .returned (.tuple #[attrV (attrP s i a).1.1 (attrP s i a).1.2 a, .int .i64 (attrP s i a).2.1, .int .i64 (attrP s i a).2.2]) ∧ Below w.heap.size w w' := by
 have hsl : s.data.toList.length = s.size := by simp
 have HSL := Lib.hid hsl
 have c1 : ∀ wx, _ := fun wx => tref_name s a wx hs (by omega)
 have hb := nmP_le s a ha
 have hE := attrP_def s i a
 generalize nmP s a = n at *
 obtain ⟨hb1, hb2⟩ := hb
 have hk := spP_le s.data.toList n (by omega)
 rw [hsl] at hk
 have c2 : ∀ wx, _ := fun wx => tref_spaces s n wx hs (by omega)
 have c3 : ∀ q wx, _ := fun q wx => tref_missing s i q wx
 generalize spP s.data.toList n = k at *
 obtain ⟨hk1, hk2⟩ := hk
 have c4 : ∀ wx, _ := fun wx => tref_Has s ⟨#[61]⟩ (k : Int) wx hs (by decide) (by decide) (by omega)
 rw [show (⟨#[61]⟩ : ByteArray).data.toList = [61] from rfl] at c4
 have hi2 : (i : Int) ≤ 1000000 := by omega
 have ha2 : (a : Int) ≤ 1000000 := by omega
 have hn2 : (n : Int) ≤ 1000000 := by omega
 have hk3 : (k : Int) ≤ 1000000 := by omega
 have hsc : ∀ wx, _ := fun wx => slice_mid s (a : Int) (n : Int) (by omega) (by omega) (by omega) wx
 rw [Int.toNat_natCast, Int.toNat_natCast, kext] at hsc
 generalize (s.data.toList.drop a).take (n - a) = N at *
 clear hsl
 go_enter Tryz.func99, Tryz.ntmps99
 go_wp2_with fail
 refine (c1 _).mono ?_
 rintro e w1 ⟨rfl, b1⟩
 have cc : ∀ (o : Nat) (u : Value), (#[.string ⟨#[]⟩, .string ⟨#[]⟩, .string ⟨#[]⟩, .int .i64 (a : Int)] : Array Value)[o]? = some u → w1.cell? ⟨w.heap.size + 1, o, none⟩ = some u ∧ w1.frozen? ⟨w.heap.size + 1, o, none⟩ = false := by
  intro o u hu
  refine ⟨(b1.cell (p := ⟨w.heap.size + 1, o, none⟩) (by simp)).trans ?_, (b1.frozen (p := ⟨w.heap.size + 1, o, none⟩) (by simp)).trans ?_⟩
  ·rw [World.cell?_alloc_at _ _ _ _ (by simp)]; exact hu
  ·rw [World.frozen?_alloc_at _ _ _ _ (by simp)]
 have rr : ∀ (o : Nat) (u : Value), (#[.string ⟨#[]⟩, .string ⟨#[]⟩, .string ⟨#[]⟩, .int .i64 0] : Array Value)[o]? = some u → w1.cell? ⟨w.heap.size, o, none⟩ = some u ∧ w1.frozen? ⟨w.heap.size, o, none⟩ = false := by
  intro o u hu
  refine ⟨(b1.cell (p := ⟨w.heap.size, o, none⟩) (by simp; omega)).trans ?_, (b1.frozen (p := ⟨w.heap.size, o, none⟩) (by simp; omega)).trans ?_⟩
  ·rw [World.cell?_alloc_past _ _ _ (by simp), World.cell?_alloc_at _ _ _ _ rfl]; exact hu
  ·rw [World.frozen?_alloc_past _ _ _ (by simp), World.frozen?_alloc_at _ _ _ _ rfl]
 obtain ⟨d0, p0⟩ := cc 0 _ rfl
 obtain ⟨d1, p1⟩ := cc 1 _ rfl
 obtain ⟨d2, p2⟩ := cc 2 _ rfl
 obtain ⟨d3, p3⟩ := cc 3 _ rfl
 obtain ⟨r0, q0⟩ := rr 0 _ rfl
 obtain ⟨r1, q1⟩ := rr 1 _ rfl
 obtain ⟨r2, q2⟩ := rr 2 _ rfl
 obtain ⟨r3, q3⟩ := rr 3 _ rfl
 clear rr cc
 simp only [List.getElem_toArray, List.getElem_cons_zero, List.getElem_cons_succ] at d0 d1 d2 d3 r0 r1 r2 r3
 have hsz1 := b1.size
 have hbw : Below w.heap.size w w1 := ((((Below.refl _ _).alloc (Nat.le_refl _) _).alloc (by simp) _)).trans (b1.mono (by simp; omega))
 have HBW := Lib.hid hbw
 have HSZ := Lib.hid (show w.heap.size + 2 ≤ w1.heap.size by simpa using hsz1)
 clear hsz1 hbw b1 c1
 by_cases hn : n = a
 ·rw [if_pos hn] at hE
  subst hn
  have hm := c3 (n : Int)
  generalize misP s.size i (n : Int) = mm at *
  obtain ⟨m1, m2⟩ := mm
  simp only at hm
  have HE := Lib.hid hE
  clear c2 c3 c4 hE hsc
  (go_wp2_with fail); (refine (hm _).mono ?_); (rintro e w' ⟨rfl, rfl⟩)
  go_wp2
  have HB := HBW
  exact bodyPost_ret (v := .tuple #[attrV [] [] n, .int .i64 m1, .int .i64 m2]) (by simp [results, Tryz.results99, go_sem, attrV, oB, cSs, r0, r1, r2, r3]) rfl ⟨by rw [HE.out], ((((HB.out.setCell (p := ⟨w.heap.size, 0, none⟩) (Nat.le_refl _) _).setCell (p := ⟨w.heap.size, 1, none⟩) (Nat.le_refl _) _).setCell (p := ⟨w.heap.size, 2, none⟩) (Nat.le_refl _) _).setCell (p := ⟨w.heap.size, 3, none⟩) (Nat.le_refl _) _)⟩
 ·rw [if_neg hn] at hE
  have hlt : (a : Int) < (n : Int) := by omega
  have HB := Lib.hid (HBW.out.setCell (p := ⟨w.heap.size + 1, 1, none⟩) (by simp) (.string (oB N)))
  unfold attr1 at hE
  rcases hh : hasP s.data.toList (k : Int) [61] with _ | _
  ·rw [hh] at hE c4
   rw [if_neg (by decide)] at hE
   have hm := c3 (k : Int)
   generalize misP s.size i (k : Int) = mm at *
   obtain ⟨m1, m2⟩ := mm
   simp only at hm
   have HE := Lib.hid hE
   clear c3 hE hh hn
   (go_wp2_with fail); (refine (c2 _).mono ?_); (rintro e w' ⟨rfl, rfl⟩)
   (go_wp2_with fail); (refine (c4 _).mono ?_); (rintro e w' ⟨rfl, rfl⟩)
   (go_wp2_with fail); (refine (hm _).mono ?_); (rintro e w' ⟨rfl, rfl⟩)
   go_wp2
   exact bodyPost_ret (v := .tuple #[attrV N [] a, .int .i64 m1, .int .i64 m2]) (by simp [results, Tryz.results99, go_sem, attrV, oB, cSs, r0, r1, r2, r3]) rfl ⟨by rw [HE.out], ((((HB.out.setCell (p := ⟨w.heap.size, 0, none⟩) (Nat.le_refl _) _).setCell (p := ⟨w.heap.size, 1, none⟩) (Nat.le_refl _) _).setCell (p := ⟨w.heap.size, 2, none⟩) (Nat.le_refl _) _).setCell (p := ⟨w.heap.size, 3, none⟩) (Nat.le_refl _) _)⟩
  ·rw [hh] at hE c4
   rw [if_pos rfl] at hE
   have hks : k < s.size := by obtain ⟨hh1, _⟩ := hasP_one _ _ _ hh; have := HSL.out; omega
   have hm := spP_le s.data.toList (k + 1) (by have := HSL.out; omega)
   rw [HSL.out] at hm
   have c5 : ∀ wx, _ := fun wx => tref_spaces s (k + 1) wx hs (by omega)
   rw [show ((k + 1 : Nat) : Int) = (k : Int) + 1 by omega] at c5
   generalize spP s.data.toList (k + 1) = m at *
   obtain ⟨hm1, hm2⟩ := hm
   have hm3 : (m : Int) ≤ 1000000 := by omega
   have c6 : ∀ wx, _ := fun wx => tref_Has s ⟨#[34]⟩ (m : Int) wx hs (by decide) (by decide) (by omega)
   have c7 : ∀ wx, _ := fun wx => tref_Has s ⟨#[39]⟩ (m : Int) wx hs (by decide) (by decide) (by omega)
   rw [show (⟨#[34]⟩ : ByteArray).data.toList = [34] from rfl] at c6
   rw [show (⟨#[39]⟩ : ByteArray).data.toList = [39] from rfl] at c7
   unfold attr2 at hE
   clear hh hn
   rcases h6 : hasP s.data.toList (m : Int) [34] with _ | _
   ·rw [h6] at hE c6
    rw [if_neg (by decide)] at hE
    rcases h7 : hasP s.data.toList (m : Int) [39] with _ | _
    ·rw [h7] at hE c7
     rw [if_neg (by decide)] at hE
     have hm := c3 (m : Int)
     generalize misP s.size i (m : Int) = mm at *
     obtain ⟨m1, m2⟩ := mm
     simp only at hm
     have HE := Lib.hid hE
     clear c3 hE h6 h7
     (go_wp2_with fail); (refine (c2 _).mono ?_); (rintro e w' ⟨rfl, rfl⟩)
     (go_wp2_with fail); (refine (c4 _).mono ?_); (rintro e w' ⟨rfl, rfl⟩)
     (go_wp2_with fail); (refine (c5 _).mono ?_); (rintro e w' ⟨rfl, rfl⟩)
     (go_wp2_with fail); (refine (c6 _).mono ?_); (rintro e w' ⟨rfl, rfl⟩)
     (go_wp2_with fail); (refine (c7 _).mono ?_); (rintro e w' ⟨rfl, rfl⟩)
     (go_wp2_with fail); (refine (hm _).mono ?_); (rintro e w' ⟨rfl, rfl⟩)
     go_wp2
     exact bodyPost_ret (v := .tuple #[attrV N [] a, .int .i64 m1, .int .i64 m2]) (by simp [results, Tryz.results99, go_sem, attrV, oB, cSs, r0, r1, r2, r3]) rfl ⟨by rw [HE.out], ((((HB.out.setCell (p := ⟨w.heap.size, 0, none⟩) (Nat.le_refl _) _).setCell (p := ⟨w.heap.size, 1, none⟩) (Nat.le_refl _) _).setCell (p := ⟨w.heap.size, 2, none⟩) (Nat.le_refl _) _).setCell (p := ⟨w.heap.size, 3, none⟩) (Nat.le_refl _) _)⟩
    ·rw [h7] at hE c7
     rw [if_pos rfl] at hE
     have HE := Lib.hid hE
     obtain ⟨hml, hx⟩ := hasP_one _ _ _ h7
     have hms : m < s.size := by have := HSL.out; omega
     have hxs : s[m]'hms = 39 := by rw [← hx]; simp [ByteArray.getElem_eq_getElem_data]
     clear c3 hE h6 h7 hx
     (go_wp2_with fail); (refine (c2 _).mono ?_); (rintro e w' ⟨rfl, rfl⟩)
     (go_wp2_with fail); (refine (c4 _).mono ?_); (rintro e w' ⟨rfl, rfl⟩)
     (go_wp2_with fail); (refine (c5 _).mono ?_); (rintro e w' ⟨rfl, rfl⟩)
     (go_wp2_with fail); (refine (c6 _).mono ?_); (rintro e w' ⟨rfl, rfl⟩)
     (go_wp2_with fail); (refine (c7 _).mono ?_); (rintro e w' ⟨rfl, rfl⟩)
     go_wp2
     go_loopw [10] (fun q wr => ∃ e : Nat, m + 1 ≤ e ∧ e ≤ s.size ∧ q = .int .i64 e ∧ quoAt s.data.toList 39 (m + 1) = quoAt s.data.toList 39 e ∧ Below w1.heap.size (w1.setCell ⟨w.heap.size + 1, 1, none⟩ (.string (oB N))) wr) (fun q _ => s.size - (intOf q).toNat)
     case atStart => exact ⟨m + 1, Nat.le_refl _, hms, by go_num, rfl, Below.refl _ _⟩
     case round =>
      obtain ⟨e, he1, he2, rfl, hq, hwr⟩ := hrel
      by_cases hlt : e < s.size
      ·have hel : e < s.data.toList.length := by have := HSL.out; omega
       obtain ⟨y, hy⟩ : ∃ y, s[e]'hlt = y := ⟨_, rfl⟩
       have hyl : s.data.toList[e]'hel = y := by rw [← hy]; simp [ByteArray.getElem_eq_getElem_data]
       have hez : (e : Int) < (s.size : Int) := by omega
       have hne : ((e : Int) == (s.size : Int)) = false := by simp; omega
       by_cases hyx : y = 39
       ·subst hyx
        replace hq := hq.trans (quoAt_no _ _ _ e hel hyl (by decide))
        have cC : ∀ wx, _ := fun wx => tref_content s (m + 1) _ true wx hs he2 he1
        have hE4 := HE.out
        unfold attr3 at hE4
        rw [hq] at hE4
        rw [show ((m + 1 : Nat) : Int) = (m : Int) + 1 by omega] at cC
        generalize contP s.data.toList (m + 1) _ true = cp at *
        obtain ⟨V, k1, k2⟩ := cp
        simp only at cC
        have HE4 := Lib.hid hE4
        clear hE4 hq
        go_wp2_with fail
        go_quiet (fail)
        go_wp2_with fail
        refine (cC _).mono ?_
        rintro er w3 ⟨rfl, b3⟩
        replace b3 := (below_drewN hwr _).trans (b3.mono (Nat.le_trans (Nat.le_of_eq (by simp)) (below_drewN hwr _).size))
        clear hwr
        have ee : ∀ (b o : Nat) (u : Value), b < w.heap.size + 2 → (w1.setCell ⟨w.heap.size + 1, 1, none⟩ (.string (oB N))).cell? ⟨b, o, none⟩ = some u → w3.cell? ⟨b, o, none⟩ = some u := fun b o u hb hu => (b3.cell (p := ⟨b, o, none⟩) (by have := HSZ.out; simp only; omega)).trans hu
        have ff : ∀ (b o : Nat), b < w.heap.size + 2 → w1.frozen? ⟨b, o, none⟩ = false → w3.frozen? ⟨b, o, none⟩ = false := fun b o hb hu => (b3.frozen (p := ⟨b, o, none⟩) (by have := HSZ.out; simp only; omega)).trans (by simpa using hu)
        have D0 := ee (w.heap.size + 1) 0 _ (by omega) (by rw [World.cell?_setCell_other _ _ _ _ (by simp)]; exact d0)
        have D1 := ee (w.heap.size + 1) 1 _ (by omega) (World.cell?_setCell_same _ _ _ d1)
        have D2 := ee (w.heap.size + 1) 2 _ (by omega) (by rw [World.cell?_setCell_other _ _ _ _ (by simp)]; exact d2)
        have D3 := ee (w.heap.size + 1) 3 _ (by omega) (by rw [World.cell?_setCell_other _ _ _ _ (by simp)]; exact d3)
        have R0 := ee w.heap.size 0 _ (by omega) (by rw [World.cell?_setCell_other _ _ _ _ (by simp)]; exact r0)
        have R1 := ee w.heap.size 1 _ (by omega) (by rw [World.cell?_setCell_other _ _ _ _ (by simp)]; exact r1)
        have R2 := ee w.heap.size 2 _ (by omega) (by rw [World.cell?_setCell_other _ _ _ _ (by simp)]; exact r2)
        have R3 := ee w.heap.size 3 _ (by omega) (by rw [World.cell?_setCell_other _ _ _ _ (by simp)]; exact r3)
        have P2 := ff (w.heap.size + 1) 2 (by omega) p2
        have Q0 := ff w.heap.size 0 (by omega) q0
        have Q1 := ff w.heap.size 1 (by omega) q1
        have Q2 := ff w.heap.size 2 (by omega) q2
        have Q3 := ff w.heap.size 3 (by omega) q3
        have HB := Lib.hid (HB.out.trans (b3.mono HBW.out.size))
        clear ee ff b3 HBW d0 d1 d2 d3 p0 p1 p2 p3 r0 r1 r2 r3 q0 q1 q2 q3
        by_cases hk0 : k2 = 0
        ·subst hk0
         have HE5 := Lib.hid (HE4.out.trans (attr4_ok hlt hel hyl (by decide)))
         have HB := Lib.hid (HB.out.setCell (p := ⟨w.heap.size + 1, 2, none⟩) (by simp) (.string (oB V)))
         go_wp2
         exact bodyPost_ret (v := .tuple #[attrV N V a, .int .i64 ((e : Int) + 1), .int .i64 0]) (by simp [results, Tryz.results99, go_sem, attrV, oB, cSs, R0, R1, R2, R3]) rfl ⟨by rw [HE5.out], ((((HB.out.setCell (p := ⟨w.heap.size, 0, none⟩) (Nat.le_refl _) _).setCell (p := ⟨w.heap.size, 1, none⟩) (Nat.le_refl _) _).setCell (p := ⟨w.heap.size, 2, none⟩) (Nat.le_refl _) _).setCell (p := ⟨w.heap.size, 3, none⟩) (Nat.le_refl _) _)⟩
        ·have hkb : (k2 != 0) = true := by simpa using hk0
         have HE5 := Lib.hid (HE4.out.trans (attr4_err hk0))
         clear hk0
         go_wp2
         exact bodyPost_ret (v := .tuple #[attrV N [] a, .int .i64 k1, .int .i64 k2]) (by simp [results, Tryz.results99, go_sem, attrV, oB, cSs, R0, R1, R2, R3]) rfl ⟨by rw [HE5.out], ((((HB.out.setCell (p := ⟨w.heap.size, 0, none⟩) (Nat.le_refl _) _).setCell (p := ⟨w.heap.size, 1, none⟩) (Nat.le_refl _) _).setCell (p := ⟨w.heap.size, 2, none⟩) (Nat.le_refl _) _).setCell (p := ⟨w.heap.size, 3, none⟩) (Nat.le_refl _) _)⟩
       ·by_cases hy60 : y = 60
        ·subst hy60
         replace hq := hq.trans (quoAt_no _ _ _ e hel hyl (by decide))
         have cC : ∀ wx, _ := fun wx => tref_content s (m + 1) _ true wx hs he2 he1
         have hE4 := HE.out
         unfold attr3 at hE4
         rw [hq] at hE4
         rw [show ((m + 1 : Nat) : Int) = (m : Int) + 1 by omega] at cC
         generalize contP s.data.toList (m + 1) _ true = cp at *
         obtain ⟨V, k1, k2⟩ := cp
         simp only at cC
         have HE4 := Lib.hid hE4
         clear hE4 hq
         go_wp2_with fail
         go_quiet (fail)
         go_wp2_with fail
         refine (cC _).mono ?_
         rintro er w3 ⟨rfl, b3⟩
         replace b3 := (below_drewN hwr _).trans (b3.mono (Nat.le_trans (Nat.le_of_eq (by simp)) (below_drewN hwr _).size))
         clear hwr
         have ee : ∀ (b o : Nat) (u : Value), b < w.heap.size + 2 → (w1.setCell ⟨w.heap.size + 1, 1, none⟩ (.string (oB N))).cell? ⟨b, o, none⟩ = some u → w3.cell? ⟨b, o, none⟩ = some u := fun b o u hb hu => (b3.cell (p := ⟨b, o, none⟩) (by have := HSZ.out; simp only; omega)).trans hu
         have ff : ∀ (b o : Nat), b < w.heap.size + 2 → w1.frozen? ⟨b, o, none⟩ = false → w3.frozen? ⟨b, o, none⟩ = false := fun b o hb hu => (b3.frozen (p := ⟨b, o, none⟩) (by have := HSZ.out; simp only; omega)).trans (by simpa using hu)
         have D0 := ee (w.heap.size + 1) 0 _ (by omega) (by rw [World.cell?_setCell_other _ _ _ _ (by simp)]; exact d0)
         have D1 := ee (w.heap.size + 1) 1 _ (by omega) (World.cell?_setCell_same _ _ _ d1)
         have D2 := ee (w.heap.size + 1) 2 _ (by omega) (by rw [World.cell?_setCell_other _ _ _ _ (by simp)]; exact d2)
         have D3 := ee (w.heap.size + 1) 3 _ (by omega) (by rw [World.cell?_setCell_other _ _ _ _ (by simp)]; exact d3)
         have R0 := ee w.heap.size 0 _ (by omega) (by rw [World.cell?_setCell_other _ _ _ _ (by simp)]; exact r0)
         have R1 := ee w.heap.size 1 _ (by omega) (by rw [World.cell?_setCell_other _ _ _ _ (by simp)]; exact r1)
         have R2 := ee w.heap.size 2 _ (by omega) (by rw [World.cell?_setCell_other _ _ _ _ (by simp)]; exact r2)
         have R3 := ee w.heap.size 3 _ (by omega) (by rw [World.cell?_setCell_other _ _ _ _ (by simp)]; exact r3)
         have P2 := ff (w.heap.size + 1) 2 (by omega) p2
         have Q0 := ff w.heap.size 0 (by omega) q0
         have Q1 := ff w.heap.size 1 (by omega) q1
         have Q2 := ff w.heap.size 2 (by omega) q2
         have Q3 := ff w.heap.size 3 (by omega) q3
         have HB := Lib.hid (HB.out.trans (b3.mono HBW.out.size))
         clear ee ff b3 HBW d0 d1 d2 d3 p0 p1 p2 p3 r0 r1 r2 r3 q0 q1 q2 q3
         by_cases hk0 : k2 = 0
         ·subst hk0
          have HE5 := Lib.hid (HE4.out.trans (attr4_lt hlt hel hyl))
          go_wp2
          exact bodyPost_ret (v := .tuple #[attrV N [] a, .int .i64 e, .int .i64 7]) (by simp [results, Tryz.results99, go_sem, attrV, oB, cSs, R0, R1, R2, R3]) rfl ⟨by rw [HE5.out], ((((HB.out.setCell (p := ⟨w.heap.size, 0, none⟩) (Nat.le_refl _) _).setCell (p := ⟨w.heap.size, 1, none⟩) (Nat.le_refl _) _).setCell (p := ⟨w.heap.size, 2, none⟩) (Nat.le_refl _) _).setCell (p := ⟨w.heap.size, 3, none⟩) (Nat.le_refl _) _)⟩
         ·have hkb : (k2 != 0) = true := by simpa using hk0
          have HE5 := Lib.hid (HE4.out.trans (attr4_err hk0))
          clear hk0
          go_wp2
          exact bodyPost_ret (v := .tuple #[attrV N [] a, .int .i64 k1, .int .i64 k2]) (by simp [results, Tryz.results99, go_sem, attrV, oB, cSs, R0, R1, R2, R3]) rfl ⟨by rw [HE5.out], ((((HB.out.setCell (p := ⟨w.heap.size, 0, none⟩) (Nat.le_refl _) _).setCell (p := ⟨w.heap.size, 1, none⟩) (Nat.le_refl _) _).setCell (p := ⟨w.heap.size, 2, none⟩) (Nat.le_refl _) _).setCell (p := ⟨w.heap.size, 3, none⟩) (Nat.le_refl _) _)⟩
        ·have HQ := Lib.hid (hq.trans (quoAt_yes _ _ _ e hel hyl (by simp [hyx, hy60])))
         have hyb : ((y.toNat : Int) != 39) = true := by
          have : ¬ ((y.toNat : Int) = 39) := fun h => hyx ((ku8_int (n := 39) (by omega)).2 h)
          simpa using this
         have hyb2 : ((y.toNat : Int) != 60) = true := by
          have : ¬ ((y.toNat : Int) = 60) := fun h => hy60 ((ku8_int (n := 60) (by omega)).2 h)
          simpa using this
         clear hq hyx hy60 hyl
         go_wp2_with fail
         go_quiet (fail)
         go_wp2
         go_roundw
         case rel => exact ⟨e + 1, by omega, by omega, by go_num, HQ.out, below_drewN hwr _⟩
         case measure => simp [intOf]; omega
      ·obtain rfl : e = s.size := by omega
       replace hq := hq.trans (quoAt_end _ _ _ (by have := HSL.out; omega))
       have cC : ∀ wx, _ := fun wx => tref_content s (m + 1) _ true wx hs he2 he1
       have hE4 := HE.out
       unfold attr3 at hE4
       rw [hq] at hE4
       rw [show ((m + 1 : Nat) : Int) = (m : Int) + 1 by omega] at cC
       generalize contP s.data.toList (m + 1) _ true = cp at *
       obtain ⟨V, k1, k2⟩ := cp
       simp only at cC
       have HE4 := Lib.hid hE4
       clear hE4 hq
       go_wp2_with fail
       go_quiet (fail)
       go_wp2_with fail
       refine (cC _).mono ?_
       rintro er w3 ⟨rfl, b3⟩
       replace b3 := (below_drewN hwr _).trans (b3.mono (Nat.le_trans (Nat.le_of_eq (by simp)) (below_drewN hwr _).size))
       clear hwr
       have ee : ∀ (b o : Nat) (u : Value), b < w.heap.size + 2 → (w1.setCell ⟨w.heap.size + 1, 1, none⟩ (.string (oB N))).cell? ⟨b, o, none⟩ = some u → w3.cell? ⟨b, o, none⟩ = some u := fun b o u hb hu => (b3.cell (p := ⟨b, o, none⟩) (by have := HSZ.out; simp only; omega)).trans hu
       have ff : ∀ (b o : Nat), b < w.heap.size + 2 → w1.frozen? ⟨b, o, none⟩ = false → w3.frozen? ⟨b, o, none⟩ = false := fun b o hb hu => (b3.frozen (p := ⟨b, o, none⟩) (by have := HSZ.out; simp only; omega)).trans (by simpa using hu)
       have D0 := ee (w.heap.size + 1) 0 _ (by omega) (by rw [World.cell?_setCell_other _ _ _ _ (by simp)]; exact d0)
       have D1 := ee (w.heap.size + 1) 1 _ (by omega) (World.cell?_setCell_same _ _ _ d1)
       have D2 := ee (w.heap.size + 1) 2 _ (by omega) (by rw [World.cell?_setCell_other _ _ _ _ (by simp)]; exact d2)
       have D3 := ee (w.heap.size + 1) 3 _ (by omega) (by rw [World.cell?_setCell_other _ _ _ _ (by simp)]; exact d3)
       have R0 := ee w.heap.size 0 _ (by omega) (by rw [World.cell?_setCell_other _ _ _ _ (by simp)]; exact r0)
       have R1 := ee w.heap.size 1 _ (by omega) (by rw [World.cell?_setCell_other _ _ _ _ (by simp)]; exact r1)
       have R2 := ee w.heap.size 2 _ (by omega) (by rw [World.cell?_setCell_other _ _ _ _ (by simp)]; exact r2)
       have R3 := ee w.heap.size 3 _ (by omega) (by rw [World.cell?_setCell_other _ _ _ _ (by simp)]; exact r3)
       have P2 := ff (w.heap.size + 1) 2 (by omega) p2
       have Q0 := ff w.heap.size 0 (by omega) q0
       have Q1 := ff w.heap.size 1 (by omega) q1
       have Q2 := ff w.heap.size 2 (by omega) q2
       have Q3 := ff w.heap.size 3 (by omega) q3
       have HB := Lib.hid (HB.out.trans (b3.mono HBW.out.size))
       clear ee ff b3 HBW d0 d1 d2 d3 p0 p1 p2 p3 r0 r1 r2 r3 q0 q1 q2 q3
       by_cases hk0 : k2 = 0
       ·subst hk0
        have HE5 := Lib.hid (HE4.out.trans (attr4_eof rfl))
        go_wp2
        exact bodyPost_ret (v := .tuple #[attrV N [] a, .int .i64 i, .int .i64 8]) (by simp [results, Tryz.results99, go_sem, attrV, oB, cSs, R0, R1, R2, R3]) rfl ⟨by rw [HE5.out], ((((HB.out.setCell (p := ⟨w.heap.size, 0, none⟩) (Nat.le_refl _) _).setCell (p := ⟨w.heap.size, 1, none⟩) (Nat.le_refl _) _).setCell (p := ⟨w.heap.size, 2, none⟩) (Nat.le_refl _) _).setCell (p := ⟨w.heap.size, 3, none⟩) (Nat.le_refl _) _)⟩
       ·have hkb : (k2 != 0) = true := by simpa using hk0
        have HE5 := Lib.hid (HE4.out.trans (attr4_err hk0))
        clear hk0
        go_wp2
        exact bodyPost_ret (v := .tuple #[attrV N [] a, .int .i64 k1, .int .i64 k2]) (by simp [results, Tryz.results99, go_sem, attrV, oB, cSs, R0, R1, R2, R3]) rfl ⟨by rw [HE5.out], ((((HB.out.setCell (p := ⟨w.heap.size, 0, none⟩) (Nat.le_refl _) _).setCell (p := ⟨w.heap.size, 1, none⟩) (Nat.le_refl _) _).setCell (p := ⟨w.heap.size, 2, none⟩) (Nat.le_refl _) _).setCell (p := ⟨w.heap.size, 3, none⟩) (Nat.le_refl _) _)⟩
   ·rw [h6] at hE c6
    rw [if_pos rfl] at hE
    have HE := Lib.hid hE
    obtain ⟨hml, hx⟩ := hasP_one _ _ _ h6
    have hms : m < s.size := by have := HSL.out; omega
    have hxs : s[m]'hms = 34 := by rw [← hx]; simp [ByteArray.getElem_eq_getElem_data]
    clear c3 c7 hE h6 hx
    (go_wp2_with fail); (refine (c2 _).mono ?_); (rintro e w' ⟨rfl, rfl⟩)
    (go_wp2_with fail); (refine (c4 _).mono ?_); (rintro e w' ⟨rfl, rfl⟩)
    (go_wp2_with fail); (refine (c5 _).mono ?_); (rintro e w' ⟨rfl, rfl⟩)
    (go_wp2_with fail); (refine (c6 _).mono ?_); (rintro e w' ⟨rfl, rfl⟩)
    go_wp2
    go_loopw [10] (fun q wr => ∃ e : Nat, m + 1 ≤ e ∧ e ≤ s.size ∧ q = .int .i64 e ∧ quoAt s.data.toList 34 (m + 1) = quoAt s.data.toList 34 e ∧ Below w1.heap.size (w1.setCell ⟨w.heap.size + 1, 1, none⟩ (.string (oB N))) wr) (fun q _ => s.size - (intOf q).toNat)
    case atStart => exact ⟨m + 1, Nat.le_refl _, hms, by go_num, rfl, Below.refl _ _⟩
    case round =>
     obtain ⟨e, he1, he2, rfl, hq, hwr⟩ := hrel
     by_cases hlt : e < s.size
     ·have hel : e < s.data.toList.length := by have := HSL.out; omega
      obtain ⟨y, hy⟩ : ∃ y, s[e]'hlt = y := ⟨_, rfl⟩
      have hyl : s.data.toList[e]'hel = y := by rw [← hy]; simp [ByteArray.getElem_eq_getElem_data]
      have hez : (e : Int) < (s.size : Int) := by omega
      have hne : ((e : Int) == (s.size : Int)) = false := by simp; omega
      by_cases hyx : y = 34
      ·subst hyx
       replace hq := hq.trans (quoAt_no _ _ _ e hel hyl (by decide))
       have cC : ∀ wx, _ := fun wx => tref_content s (m + 1) _ true wx hs he2 he1
       have hE4 := HE.out
       unfold attr3 at hE4
       rw [hq] at hE4
       rw [show ((m + 1 : Nat) : Int) = (m : Int) + 1 by omega] at cC
       generalize contP s.data.toList (m + 1) _ true = cp at *
       obtain ⟨V, k1, k2⟩ := cp
       simp only at cC
       have HE4 := Lib.hid hE4
       clear hE4 hq
       go_wp2_with fail
       go_quiet (fail)
       go_wp2_with fail
       refine (cC _).mono ?_
       rintro er w3 ⟨rfl, b3⟩
       replace b3 := (below_drewN hwr _).trans (b3.mono (Nat.le_trans (Nat.le_of_eq (by simp)) (below_drewN hwr _).size))
       clear hwr
       have ee : ∀ (b o : Nat) (u : Value), b < w.heap.size + 2 → (w1.setCell ⟨w.heap.size + 1, 1, none⟩ (.string (oB N))).cell? ⟨b, o, none⟩ = some u → w3.cell? ⟨b, o, none⟩ = some u := fun b o u hb hu => (b3.cell (p := ⟨b, o, none⟩) (by have := HSZ.out; simp only; omega)).trans hu
       have ff : ∀ (b o : Nat), b < w.heap.size + 2 → w1.frozen? ⟨b, o, none⟩ = false → w3.frozen? ⟨b, o, none⟩ = false := fun b o hb hu => (b3.frozen (p := ⟨b, o, none⟩) (by have := HSZ.out; simp only; omega)).trans (by simpa using hu)
       have D0 := ee (w.heap.size + 1) 0 _ (by omega) (by rw [World.cell?_setCell_other _ _ _ _ (by simp)]; exact d0)
       have D1 := ee (w.heap.size + 1) 1 _ (by omega) (World.cell?_setCell_same _ _ _ d1)
       have D2 := ee (w.heap.size + 1) 2 _ (by omega) (by rw [World.cell?_setCell_other _ _ _ _ (by simp)]; exact d2)
       have D3 := ee (w.heap.size + 1) 3 _ (by omega) (by rw [World.cell?_setCell_other _ _ _ _ (by simp)]; exact d3)
       have R0 := ee w.heap.size 0 _ (by omega) (by rw [World.cell?_setCell_other _ _ _ _ (by simp)]; exact r0)
       have R1 := ee w.heap.size 1 _ (by omega) (by rw [World.cell?_setCell_other _ _ _ _ (by simp)]; exact r1)
       have R2 := ee w.heap.size 2 _ (by omega) (by rw [World.cell?_setCell_other _ _ _ _ (by simp)]; exact r2)
       have R3 := ee w.heap.size 3 _ (by omega) (by rw [World.cell?_setCell_other _ _ _ _ (by simp)]; exact r3)
       have P2 := ff (w.heap.size + 1) 2 (by omega) p2
       have Q0 := ff w.heap.size 0 (by omega) q0
       have Q1 := ff w.heap.size 1 (by omega) q1
       have Q2 := ff w.heap.size 2 (by omega) q2
       have Q3 := ff w.heap.size 3 (by omega) q3
       have HB := Lib.hid (HB.out.trans (b3.mono HBW.out.size))
       clear ee ff b3 HBW d0 d1 d2 d3 p0 p1 p2 p3 r0 r1 r2 r3 q0 q1 q2 q3
       by_cases hk0 : k2 = 0
       ·subst hk0
        have HE5 := Lib.hid (HE4.out.trans (attr4_ok hlt hel hyl (by decide)))
        have HB := Lib.hid (HB.out.setCell (p := ⟨w.heap.size + 1, 2, none⟩) (by simp) (.string (oB V)))
        go_wp2
        exact bodyPost_ret (v := .tuple #[attrV N V a, .int .i64 ((e : Int) + 1), .int .i64 0]) (by simp [results, Tryz.results99, go_sem, attrV, oB, cSs, R0, R1, R2, R3]) rfl ⟨by rw [HE5.out], ((((HB.out.setCell (p := ⟨w.heap.size, 0, none⟩) (Nat.le_refl _) _).setCell (p := ⟨w.heap.size, 1, none⟩) (Nat.le_refl _) _).setCell (p := ⟨w.heap.size, 2, none⟩) (Nat.le_refl _) _).setCell (p := ⟨w.heap.size, 3, none⟩) (Nat.le_refl _) _)⟩
       ·have hkb : (k2 != 0) = true := by simpa using hk0
        have HE5 := Lib.hid (HE4.out.trans (attr4_err hk0))
        clear hk0
        go_wp2
        exact bodyPost_ret (v := .tuple #[attrV N [] a, .int .i64 k1, .int .i64 k2]) (by simp [results, Tryz.results99, go_sem, attrV, oB, cSs, R0, R1, R2, R3]) rfl ⟨by rw [HE5.out], ((((HB.out.setCell (p := ⟨w.heap.size, 0, none⟩) (Nat.le_refl _) _).setCell (p := ⟨w.heap.size, 1, none⟩) (Nat.le_refl _) _).setCell (p := ⟨w.heap.size, 2, none⟩) (Nat.le_refl _) _).setCell (p := ⟨w.heap.size, 3, none⟩) (Nat.le_refl _) _)⟩
      ·by_cases hy60 : y = 60
       ·subst hy60
        replace hq := hq.trans (quoAt_no _ _ _ e hel hyl (by decide))
        have cC : ∀ wx, _ := fun wx => tref_content s (m + 1) _ true wx hs he2 he1
        have hE4 := HE.out
        unfold attr3 at hE4
        rw [hq] at hE4
        rw [show ((m + 1 : Nat) : Int) = (m : Int) + 1 by omega] at cC
        generalize contP s.data.toList (m + 1) _ true = cp at *
        obtain ⟨V, k1, k2⟩ := cp
        simp only at cC
        have HE4 := Lib.hid hE4
        clear hE4 hq
        go_wp2_with fail
        go_quiet (fail)
        go_wp2_with fail
        refine (cC _).mono ?_
        rintro er w3 ⟨rfl, b3⟩
        replace b3 := (below_drewN hwr _).trans (b3.mono (Nat.le_trans (Nat.le_of_eq (by simp)) (below_drewN hwr _).size))
        clear hwr
        have ee : ∀ (b o : Nat) (u : Value), b < w.heap.size + 2 → (w1.setCell ⟨w.heap.size + 1, 1, none⟩ (.string (oB N))).cell? ⟨b, o, none⟩ = some u → w3.cell? ⟨b, o, none⟩ = some u := fun b o u hb hu => (b3.cell (p := ⟨b, o, none⟩) (by have := HSZ.out; simp only; omega)).trans hu
        have ff : ∀ (b o : Nat), b < w.heap.size + 2 → w1.frozen? ⟨b, o, none⟩ = false → w3.frozen? ⟨b, o, none⟩ = false := fun b o hb hu => (b3.frozen (p := ⟨b, o, none⟩) (by have := HSZ.out; simp only; omega)).trans (by simpa using hu)
        have D0 := ee (w.heap.size + 1) 0 _ (by omega) (by rw [World.cell?_setCell_other _ _ _ _ (by simp)]; exact d0)
        have D1 := ee (w.heap.size + 1) 1 _ (by omega) (World.cell?_setCell_same _ _ _ d1)
        have D2 := ee (w.heap.size + 1) 2 _ (by omega) (by rw [World.cell?_setCell_other _ _ _ _ (by simp)]; exact d2)
        have D3 := ee (w.heap.size + 1) 3 _ (by omega) (by rw [World.cell?_setCell_other _ _ _ _ (by simp)]; exact d3)
        have R0 := ee w.heap.size 0 _ (by omega) (by rw [World.cell?_setCell_other _ _ _ _ (by simp)]; exact r0)
        have R1 := ee w.heap.size 1 _ (by omega) (by rw [World.cell?_setCell_other _ _ _ _ (by simp)]; exact r1)
        have R2 := ee w.heap.size 2 _ (by omega) (by rw [World.cell?_setCell_other _ _ _ _ (by simp)]; exact r2)
        have R3 := ee w.heap.size 3 _ (by omega) (by rw [World.cell?_setCell_other _ _ _ _ (by simp)]; exact r3)
        have P2 := ff (w.heap.size + 1) 2 (by omega) p2
        have Q0 := ff w.heap.size 0 (by omega) q0
        have Q1 := ff w.heap.size 1 (by omega) q1
        have Q2 := ff w.heap.size 2 (by omega) q2
        have Q3 := ff w.heap.size 3 (by omega) q3
        have HB := Lib.hid (HB.out.trans (b3.mono HBW.out.size))
        clear ee ff b3 HBW d0 d1 d2 d3 p0 p1 p2 p3 r0 r1 r2 r3 q0 q1 q2 q3
        by_cases hk0 : k2 = 0
        ·subst hk0
         have HE5 := Lib.hid (HE4.out.trans (attr4_lt hlt hel hyl))
         go_wp2
         exact bodyPost_ret (v := .tuple #[attrV N [] a, .int .i64 e, .int .i64 7]) (by simp [results, Tryz.results99, go_sem, attrV, oB, cSs, R0, R1, R2, R3]) rfl ⟨by rw [HE5.out], ((((HB.out.setCell (p := ⟨w.heap.size, 0, none⟩) (Nat.le_refl _) _).setCell (p := ⟨w.heap.size, 1, none⟩) (Nat.le_refl _) _).setCell (p := ⟨w.heap.size, 2, none⟩) (Nat.le_refl _) _).setCell (p := ⟨w.heap.size, 3, none⟩) (Nat.le_refl _) _)⟩
        ·have hkb : (k2 != 0) = true := by simpa using hk0
         have HE5 := Lib.hid (HE4.out.trans (attr4_err hk0))
         clear hk0
         go_wp2
         exact bodyPost_ret (v := .tuple #[attrV N [] a, .int .i64 k1, .int .i64 k2]) (by simp [results, Tryz.results99, go_sem, attrV, oB, cSs, R0, R1, R2, R3]) rfl ⟨by rw [HE5.out], ((((HB.out.setCell (p := ⟨w.heap.size, 0, none⟩) (Nat.le_refl _) _).setCell (p := ⟨w.heap.size, 1, none⟩) (Nat.le_refl _) _).setCell (p := ⟨w.heap.size, 2, none⟩) (Nat.le_refl _) _).setCell (p := ⟨w.heap.size, 3, none⟩) (Nat.le_refl _) _)⟩
       ·have HQ := Lib.hid (hq.trans (quoAt_yes _ _ _ e hel hyl (by simp [hyx, hy60])))
        have hyb : ((y.toNat : Int) != 34) = true := by
         have : ¬ ((y.toNat : Int) = 34) := fun h => hyx ((ku8_int (n := 34) (by omega)).2 h)
         simpa using this
        have hyb2 : ((y.toNat : Int) != 60) = true := by
         have : ¬ ((y.toNat : Int) = 60) := fun h => hy60 ((ku8_int (n := 60) (by omega)).2 h)
         simpa using this
        clear hq hyx hy60 hyl
        go_wp2_with fail
        go_quiet (fail)
        go_wp2
        go_roundw
        case rel => exact ⟨e + 1, by omega, by omega, by go_num, HQ.out, below_drewN hwr _⟩
        case measure => simp [intOf]; omega
     ·obtain rfl : e = s.size := by omega
      replace hq := hq.trans (quoAt_end _ _ _ (by have := HSL.out; omega))
      have cC : ∀ wx, _ := fun wx => tref_content s (m + 1) _ true wx hs he2 he1
      have hE4 := HE.out
      unfold attr3 at hE4
      rw [hq] at hE4
      rw [show ((m + 1 : Nat) : Int) = (m : Int) + 1 by omega] at cC
      generalize contP s.data.toList (m + 1) _ true = cp at *
      obtain ⟨V, k1, k2⟩ := cp
      simp only at cC
      have HE4 := Lib.hid hE4
      clear hE4 hq
      go_wp2_with fail
      go_quiet (fail)
      go_wp2_with fail
      refine (cC _).mono ?_
      rintro er w3 ⟨rfl, b3⟩
      replace b3 := (below_drewN hwr _).trans (b3.mono (Nat.le_trans (Nat.le_of_eq (by simp)) (below_drewN hwr _).size))
      clear hwr
      have ee : ∀ (b o : Nat) (u : Value), b < w.heap.size + 2 → (w1.setCell ⟨w.heap.size + 1, 1, none⟩ (.string (oB N))).cell? ⟨b, o, none⟩ = some u → w3.cell? ⟨b, o, none⟩ = some u := fun b o u hb hu => (b3.cell (p := ⟨b, o, none⟩) (by have := HSZ.out; simp only; omega)).trans hu
      have ff : ∀ (b o : Nat), b < w.heap.size + 2 → w1.frozen? ⟨b, o, none⟩ = false → w3.frozen? ⟨b, o, none⟩ = false := fun b o hb hu => (b3.frozen (p := ⟨b, o, none⟩) (by have := HSZ.out; simp only; omega)).trans (by simpa using hu)
      have D0 := ee (w.heap.size + 1) 0 _ (by omega) (by rw [World.cell?_setCell_other _ _ _ _ (by simp)]; exact d0)
      have D1 := ee (w.heap.size + 1) 1 _ (by omega) (World.cell?_setCell_same _ _ _ d1)
      have D2 := ee (w.heap.size + 1) 2 _ (by omega) (by rw [World.cell?_setCell_other _ _ _ _ (by simp)]; exact d2)
      have D3 := ee (w.heap.size + 1) 3 _ (by omega) (by rw [World.cell?_setCell_other _ _ _ _ (by simp)]; exact d3)
      have R0 := ee w.heap.size 0 _ (by omega) (by rw [World.cell?_setCell_other _ _ _ _ (by simp)]; exact r0)
      have R1 := ee w.heap.size 1 _ (by omega) (by rw [World.cell?_setCell_other _ _ _ _ (by simp)]; exact r1)
      have R2 := ee w.heap.size 2 _ (by omega) (by rw [World.cell?_setCell_other _ _ _ _ (by simp)]; exact r2)
      have R3 := ee w.heap.size 3 _ (by omega) (by rw [World.cell?_setCell_other _ _ _ _ (by simp)]; exact r3)
      have P2 := ff (w.heap.size + 1) 2 (by omega) p2
      have Q0 := ff w.heap.size 0 (by omega) q0
      have Q1 := ff w.heap.size 1 (by omega) q1
      have Q2 := ff w.heap.size 2 (by omega) q2
      have Q3 := ff w.heap.size 3 (by omega) q3
      have HB := Lib.hid (HB.out.trans (b3.mono HBW.out.size))
      clear ee ff b3 HBW d0 d1 d2 d3 p0 p1 p2 p3 r0 r1 r2 r3 q0 q1 q2 q3
      by_cases hk0 : k2 = 0
      ·subst hk0
       have HE5 := Lib.hid (HE4.out.trans (attr4_eof rfl))
       go_wp2
       exact bodyPost_ret (v := .tuple #[attrV N [] a, .int .i64 i, .int .i64 8]) (by simp [results, Tryz.results99, go_sem, attrV, oB, cSs, R0, R1, R2, R3]) rfl ⟨by rw [HE5.out], ((((HB.out.setCell (p := ⟨w.heap.size, 0, none⟩) (Nat.le_refl _) _).setCell (p := ⟨w.heap.size, 1, none⟩) (Nat.le_refl _) _).setCell (p := ⟨w.heap.size, 2, none⟩) (Nat.le_refl _) _).setCell (p := ⟨w.heap.size, 3, none⟩) (Nat.le_refl _) _)⟩
      ·have hkb : (k2 != 0) = true := by simpa using hk0
       have HE5 := Lib.hid (HE4.out.trans (attr4_err hk0))
       clear hk0
       go_wp2
       exact bodyPost_ret (v := .tuple #[attrV N [] a, .int .i64 k1, .int .i64 k2]) (by simp [results, Tryz.results99, go_sem, attrV, oB, cSs, R0, R1, R2, R3]) rfl ⟨by rw [HE5.out], ((((HB.out.setCell (p := ⟨w.heap.size, 0, none⟩) (Nat.le_refl _) _).setCell (p := ⟨w.heap.size, 1, none⟩) (Nat.le_refl _) _).setCell (p := ⟨w.heap.size, 2, none⟩) (Nat.le_refl _) _).setCell (p := ⟨w.heap.size, 3, none⟩) (Nat.le_refl _) _)⟩
structure AttrD where
 sp : ByteArray
 nm : ByteArray
 va : ByteArray
 at' : Int
deriving DecidableEq
def AttrsAt (w : World) (p : Option Addr) (l : List AttrD) : Prop := ∀ i (h : i < l.length), ∃ a, p = some a ∧
 w.cell? (a.add (i * 4)) = some (.string l[i].sp) ∧ w.cell? ((a.add (i * 4)).add 1) = some (.string l[i].nm) ∧ w.cell? ((a.add (i * 4)).add 2) = some (.string l[i].va) ∧ w.cell? ((a.add (i * 4)).add 3) = some (.int .i64 l[i].at')
def AttrD.val (x : AttrD) : Value := .agg #[.string x.sp, .string x.nm, .string x.va, .int .i64 x.at']
end
end Go.Proofs.YtppmoeidgefkpaaGreatDoor
