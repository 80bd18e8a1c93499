/- The reference of layer 5: Unescape: what it returns. -/
import Derived.Test.YtofoloidllkfaaaDoorEscC
import Derived.Test.YtofoloidllkfaaaDoorTextR
namespace Go.Proofs.YtofoloidllkfaaaDoor
open Go.RowKit

/-- The bytes of a rune's encoding. -/
def eb (r : Int) : List UInt8 := (encZ r).map fun n => UInt8.ofNat n.toNat
theorem eb_str (r : Int) : strOfNums (encZ r) = ofBytes (eb r) := by
  apply estr_ext
  rw [strOfNums_data, ofBytes_list]; rfl
theorem eb_len (r : Int) : (eb r).length ≤ 4 := by
  unfold eb encZ
  rw [List.length_map]
  repeat' split
  all_goals simp
theorem refAt_cases (l : List UInt8) (i : Nat) : refAt l i = (0, 0, 12) ∨ ∃ (r : Int) (j : Nat), refAt l i = (r, (j : Int), 0) ∧ i + 2 ≤ j ∧ j ≤ l.length ∧ isCharB r = true ∧ -1 ≤ r ∧ r ≤ 2000000 := by
  unfold refAt
  have hb := refNum_bd (tw (l.drop (i + 1)))
  split
  · split
    · rename_i h1 h2
      exact .inr ⟨_, _, rfl, by omega, by omega, h2, hb.1, hb.2⟩
    · exact .inl rfl
  · exact .inl rfl
/-- Unescape from an offset on, with what has been written and a bound on the number of steps. -/
def unF (l : List UInt8) : Nat → Nat → List UInt8 → List UInt8 × Int × Int
  | 0, _, out => (out, (l.length : Int), 0)
  | f + 1, i, out => if i < l.length then (if l.getD i 0 = 38 then (if (refAt l i).2.2 = 0 then unF l f (refAt l i).2.1.toNat (out ++ eb (refAt l i).1) else ([], (i : Int), (refAt l i).2.2)) else unF l f (i + 1) (out ++ [l.getD i 0])) else (out, (l.length : Int), 0)
def unP (l : List UInt8) : List UInt8 × Int × Int := unF l (l.length + 1) 0 []
theorem refP_at (l : List UInt8) (i : Nat) (h : i < l.length) (hc : l.getD i 0 = 38) : refP l (i : Int) = refAt l i := by
  unfold refP; rw [Int.toNat_natCast, if_pos ⟨by omega, by omega, hc⟩]
theorem eob_app (a b : List UInt8) : ofBytes a ++ ofBytes b = ofBytes (a ++ b) := by
  apply estr_ext
  simp [ofBytes]

set_option maxRecDepth 100000 in
set_option maxHeartbeats 8000000 in
theorem eref_Unescape (s : ByteArray) (w : World) (hs : s.size ≤ 1000000) :
    Calls Tryd.prog 16 #[.string s] w fun e w' => e = .returned (.tuple #[.string (ofBytes (unP s.data.toList).1), .int .i64 (unP s.data.toList).2.1, .int .i64 (unP s.data.toList).2.2]) ∧ Below w.heap.size w w' := by
  have hsl : s.data.toList.length = s.size := by simp
  have HSL := Lib.hid hsl
  clear hsl
  go_enter Tryd.func16, Tryd.ntmps16
  go_wp2
  go_loopw [5, 6] (fun v q wr => ∃ (k f : Nat) (acc : List UInt8), k ≤ s.size ∧ q = .int .i64 k ∧ v = .string (ofBytes acc) ∧ (unP s.data.toList = unF s.data.toList f k acc ∧ s.size - k < f) ∧ acc.length ≤ 4 * k ∧ Below w.heap.size w wr) (fun _ q _ => s.size - (intOf q).toNat)
  case atStart => exact ⟨0, s.data.toList.length + 1, [], by omega, rfl, rfl, ⟨rfl, by have := HSL.out; omega⟩, by simp, Below.refl _ _⟩
  case round =>
    obtain ⟨k, f, acc, hk, rfl, rfl, ⟨hrel, hf⟩, hal, hbel⟩ := hrel
    have hz := hbel.size
    obtain ⟨f, rfl⟩ : ∃ g, f = g + 1 := ⟨f - 1, by omega⟩
    by_cases hlt : k < s.size
    · have hkl : k < s.data.toList.length := by have := HSL.out; omega
      obtain ⟨y, hy⟩ : ∃ y, s[k]'hlt = y := ⟨_, rfl⟩
      have hyl : s.data.toList[k]'hkl = y := by rw [← hy]; simp [ByteArray.getElem_eq_getElem_data]
      have hgd : s.data.toList.getD k 0 = y := by rw [List.getD_eq_getElem?_getD, List.getElem?_eq_getElem hkl, hyl]; rfl
      rw [unF, if_pos hkl] at hrel
      have hk6 : (k : Int) ≤ 1000000 := by omega
      have ha6 : (ofBytes acc).size ≤ 4000000 := by rw [ofBytes_size]; omega
      have hkz : (k : Int) < (s.size : Int) := by omega
      by_cases hamp : y = 38
      · subst hamp
        rw [if_pos hgd] at hrel
        have cR : ∀ wx, _ := fun wx => eref_Reference s (k : Int) wx hs
        rw [refP_at _ _ hkl hgd] at cR
        rcases refAt_cases s.data.toList k with hr | ⟨r, j, hr, h1, h2, h3, h4, h5⟩
        · rw [hr] at cR hrel
          have HR := Lib.hid (hrel.trans (if_neg (by decide)))
          clear hrel hr hgd hyl
          (go_wp2_with fail); (refine (cR _).mono ?_); (rintro e w' ⟨rfl, rfl⟩)
          go_wp2
          exact bodyPost_ret (v := .tuple #[.string ⟨#[]⟩, .int .i64 k, .int .i64 12]) (by simp [results, Tryd.results16, go_sem]) rfl ⟨by rw [HR.out]; rfl, hbel⟩
        · rw [hr] at cR hrel
          have HR := Lib.hid (hrel.trans (if_pos rfl))
          have cE : ∀ wx, _ := fun wx => ref_Encode r wx
          rw [eb_str] at cE
          have hebl := eb_len r
          have hes : (ofBytes (eb r)).size ≤ 4 := by rw [ofBytes_size]; exact hebl
          have happ := eob_app acc (eb r)
          have HAP := Lib.hid happ
          clear hrel hr hgd hyl happ h3
          (go_wp2_with fail); (refine (cR _).mono ?_); (rintro e w' ⟨rfl, rfl⟩)
          go_wp2_with fail
          refine (cE _).mono ?_
          rintro e w2 ⟨rfl, b2⟩
          go_wp2
          go_roundw
          case rel => exact ⟨j, f, acc ++ eb r, by have := HSL.out; omega, rfl, by rw [HAP.out], ⟨HR.out, by have := HSL.out; omega⟩, by rw [List.length_append]; omega, hbel.trans (b2.mono hz)⟩
          case measure => have := HSL.out; simp [intOf]; omega
      · rw [if_neg (by rw [hgd]; exact hamp), hgd] at hrel
        have HR := Lib.hid hrel
        have hbn : ((y.toNat : Int) != 38) = true := by
          have : ¬ ((y.toNat : Int) = 38) := fun h => hamp ((eu8_int (n := 38) (by omega)).2 h)
          simpa using this
        have hsc : ∀ wx, _ := fun wx => slice_mid s (k : Int) ((k : Int) + 1) (by omega) (by omega) (by omega) wx
        rw [show ((k : Int) + 1).toNat = k + 1 by omega, Int.toNat_natCast, eext, List.drop_eq_getElem_cons hkl, hyl, show k + 1 - k = 1 by omega] at hsc
        change ∀ wx, _ = Result.ok (Value.string (ofBytes [y])) wx at hsc
        have happ := eob_app acc [y]
        have HAP := Lib.hid happ
        have hy1 : (ofBytes [y]).size = 1 := rfl
        clear hrel hgd hyl hamp happ
        generalize ofBytes [y] = Y at *
        go_wp2
        go_roundw
        case rel => exact ⟨k + 1, f, acc ++ [y], by omega, by go_num, by rw [← HAP.out], ⟨HR.out, by omega⟩, by rw [List.length_append]; simp; omega, hbel⟩
        case measure => simp [intOf]; omega
    · obtain rfl : k = s.size := by omega
      rw [unF, if_neg (by have := HSL.out; omega), HSL.out] at hrel
      have HR := Lib.hid hrel
      clear hrel
      go_wp2
      exact bodyPost_ret (v := .tuple #[.string (ofBytes acc), .int .i64 s.size, .int .i64 0]) (by simp [results, Tryd.results16, go_sem]) rfl ⟨by rw [HR.out], hbel⟩
end Go.Proofs.YtofoloidllkfaaaDoor
