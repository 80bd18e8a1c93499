/- Packed from the texts JvN JvC JvQ. -/
import Derived.Test.YtkkiklaoljdhhaaGreatDoorYkC
import Derived.Test.YtkkiklaoljdhhaaGreatDoorYkD
import Derived.Test.YtkkiklaoljdhhaaGreatDoorYkE
import Derived.Test.YtkkiklaoljdhhaaGreatDoorYkJ
import Derived.Deep.QuietTactic
import Derived.BigQuiet
import Derived.WalkSmall
section
namespace Go.Proofs.YtkkiklaoljdhhaaGreatDoor
open Go.RowKit
def dvalN : List UInt8 → Nat → Option Nat
  | [], u => some u
  | c :: r, u => if 48 ≤ c.toNat ∧ c.toNat ≤ 57 then dvalN r (u * 10 + (c.toNat - 48)) else none
def jnumD (g : Bool) (l : List UInt8) : Option Int :=
  if l = [] ∨ 19 < l.length ∨ (1 < l.length ∧ l.getD 0 0 = 48) then none
  else match dvalN l 0 with
    | none => none
    | some u => if g then (if u ≤ 9223372036854775808 then some (-(u : Int)) else none) else if u < 9223372036854775808 then some (u : Int) else none
def jnumL (l : List UInt8) : Option Int := if l.getD 0 0 = 45 then jnumD true l.tail else jnumD false l
theorem jnumL_neg (l : List UInt8) (h : l.getD 0 0 = 45) : jnumL l = jnumD true l.tail := by unfold jnumL; rw [if_pos h]
theorem jnumL_pos (l : List UInt8) (h : ¬ l.getD 0 0 = 45) : jnumL l = jnumD false l := by unfold jnumL; rw [if_neg h]
theorem jnumD_bad (g : Bool) (l : List UInt8) (h : l = [] ∨ 19 < l.length ∨ (1 < l.length ∧ l.getD 0 0 = 48)) : jnumD g l = none := by unfold jnumD; rw [if_pos h]
theorem jnumD_ok (g : Bool) (l : List UInt8) (h : ¬ (l = [] ∨ 19 < l.length ∨ (1 < l.length ∧ l.getD 0 0 = 48))) : jnumD g l = match dvalN l 0 with
    | none => none
    | some u => if g then (if u ≤ 9223372036854775808 then some (-(u : Int)) else none) else if u < 9223372036854775808 then some (u : Int) else none := by unfold jnumD; rw [if_neg h]
theorem jretNu {R : Option Int} {N : Int} {b : Bool} (h : b = R.isSome) (hN : ∀ z, R = some z → N = z) : ∃ N', Ending.returned (.tuple #[.int .i64 N, .bool b]) = .returned (.tuple #[.int .i64 N', .bool R.isSome]) ∧ ∀ z, R = some z → N' = z := ⟨N, by rw [h], hN⟩
theorem negS (m : Nat) {R X : Option Int} (h : R = if True then (if m ≤ 9223372036854775808 then some (-(m : Int)) else none) else X) : (decide ((m : Int) ≤ 9223372036854775808) = R.isSome) ∧ ∀ z, R = some z → wrap64 (IntKind.u64.wrap (-(m : Int))) = z := by
  rw [if_pos trivial] at h
  subst h
  split
  · refine ⟨by simp; omega, fun z hz => ?_⟩
    simp only [Option.some.injEq] at hz
    subst hz
    rw [IntKind.wrap_u64]
    unfold wrap64
    omega
  · exact ⟨by simp; omega, fun z hz => by cases hz⟩
theorem posS (m : Nat) {R X : Option Int} (h : R = if false = true then X else if m < 9223372036854775808 then some (m : Int) else none) : (decide ((m : Int) < 9223372036854775808) = R.isSome) ∧ ∀ z, R = some z → wrap64 (m : Int) = z := by
  rw [if_neg (by decide)] at h
  subst h
  split
  · refine ⟨by simp; omega, fun z hz => ?_⟩
    simp only [Option.some.injEq] at hz
    subst hz
    unfold wrap64
    omega
  · exact ⟨by simp; omega, fun z hz => by cases hz⟩
set_option maxRecDepth 100000 in
set_option maxHeartbeats 16000000 in
theorem jref_Number (s : ByteArray) (w : World) (hs : s.size ≤ 1000000) :
    Calls Tryz.prog 50 #[.string s] w fun e w' => (∃ N : Int, e = .returned (.tuple #[.int .i64 N, .bool (jnumL s.data.toList).isSome]) ∧ ∀ z, jnumL s.data.toList = some z → N = z) ∧ w = w' := by
  have hsl : s.data.toList.length = s.size := by simp
  by_cases h0 : s.size = 0
  · have hl : s.data.toList = [] := List.length_eq_zero_iff.1 (by omega)
    have hR : jnumL s.data.toList = none := by rw [hl]; rfl
    obtain rfl : s = ⟨#[]⟩ := kstr_ext (by rw [hl])
    generalize jnumL _ = R at *
    have HNO := Lib.hid hR
    clear hR
    clear hsl hl h0 hs
    go_enter Tryz.func50, Tryz.ntmps50
    go_wp2
    exact bodyPost_ret (v := .tuple #[.int .i64 0, .bool false]) (by simp [results, Tryz.results50, go_sem]) rfl ⟨jretNu (R := R) (by rw [HNO.out]; rfl) (fun _ h => by rw [HNO.out] at h; cases h), rfl⟩
  have hsp : 0 < s.size := by omega
  have hne : s.toList.isEmpty = false := by
    rw [ByteArray.toList_eq]
    cases h : s.data.toList with
    | nil => rw [h] at hsl; simp at hsl; omega
    | cons _ _ => rfl
  have hix := jix s .i64 0 0 rfl hsp
  obtain ⟨x0, hx0⟩ : ∃ x, s.data.toList.getD 0 0 = x := ⟨_, rfl⟩
  have e45 := u8_at x0 45
  rw [show (((45 : UInt8).toNat : Nat) : Int) = 45 from rfl] at e45
  rw [hx0] at hix
  by_cases hm : x0 = 45
  · have hD : ∃ D : ByteArray, s.extract (1 : Int).toNat s.size = D ∧ D.data.toList = s.data.toList.tail ∧ (D.size : Int) < (s.size : Int) := by
      refine ⟨_, rfl, ?_, ?_⟩
      · rw [kext, ofBytes_list]
        show ((s.data.toList.drop 1).take (s.size - 1)) = _
        rw [List.take_of_length_le (by rw [List.length_drop, hsl]; exact Nat.le_refl _), List.drop_one]
      · have := congrArg List.length (show (s.extract (1 : Int).toNat s.size).data.toList = s.data.toList.tail by rw [kext, ofBytes_list]; show ((s.data.toList.drop 1).take (s.size - 1)) = _; rw [List.take_of_length_le (by rw [List.length_drop, hsl]; exact Nat.le_refl _), List.drop_one])
        rw [List.length_tail, hsl] at this
        have h2 : (s.extract (1 : Int).toNat s.size).data.toList.length = (s.extract (1 : Int).toNat s.size).size := by simp
        omega
    have hsc : ∀ wx, _ := fun wx => slice_from s 1 (by omega) (by omega) wx
    obtain ⟨D, hDs, hDt, hlen⟩ := hD
    rw [hDs] at hsc
    have hnum : jnumL s.data.toList = jnumD true D.data.toList := by rw [jnumL_neg _ (by rw [hx0]; exact hm), hDt]
    have hz0 : (x0.toNat : Int) = 45 := e45.1 hm
    rw [hz0] at hix
    clear hm e45 hDs hDt hx0 hz0 hsl h0
    have hDl : D.data.toList.length = D.size := by simp
    obtain ⟨R, hRR⟩ : ∃ R, jnumD true D.data.toList = R := ⟨_, rfl⟩
    rw [hnum, hRR]
    clear hnum
    have hnum := hRR.symm
    clear hRR
    by_cases hd0 : D.size = 0
    · have hl : D.data.toList = [] := List.length_eq_zero_iff.1 (by omega)
      rw [jnumD_bad _ _ (.inl hl)] at hnum
      obtain rfl : D = ⟨#[]⟩ := kstr_ext (by rw [hl])
      have HNO := Lib.hid hnum
      clear hnum
      clear hDl hl hd0 hlen
      go_enter Tryz.func50, Tryz.ntmps50
      go_wp2
      exact bodyPost_ret (v := .tuple #[.int .i64 0, .bool false]) (by simp [results, Tryz.results50, go_sem]) rfl ⟨jretNu (R := R) (by rw [HNO.out]; rfl) (fun _ h => by rw [HNO.out] at h; cases h), rfl⟩
    have hdn : D.toList.isEmpty = false := by
      rw [ByteArray.toList_eq]
      cases h : D.data.toList with
      | nil => rw [h] at hDl; simp at hDl; omega
      | cons _ _ => rfl
    by_cases hd19 : 19 < D.size
    · rw [jnumD_bad _ _ (.inr (.inl (by omega)))] at hnum
      have HNO := Lib.hid hnum
      clear hnum
      have hz19 : (19 : Int) < (D.size : Int) := by omega
      clear hDl hlen
      go_enter Tryz.func50, Tryz.ntmps50
      go_wp2
      exact bodyPost_ret (v := .tuple #[.int .i64 0, .bool false]) (by simp [results, Tryz.results50, go_sem]) rfl ⟨jretNu (R := R) (by rw [HNO.out]; rfl) (fun _ h => by rw [HNO.out] at h; cases h), rfl⟩
    have hz19 : ¬ (19 : Int) < (D.size : Int) := by omega
    have hixd := jix D .i64 0 0 rfl (by omega)
    obtain ⟨y0, hy0⟩ : ∃ x, D.data.toList.getD 0 0 = x := ⟨_, rfl⟩
    have f48 := u8_at y0 48
    rw [show (((48 : UInt8).toNat : Nat) : Int) = 48 from rfl] at f48
    rw [hy0] at hixd
    by_cases hlead : 1 < D.size ∧ y0 = 48
    · rw [jnumD_bad _ _ (.inr (.inr ⟨by omega, by rw [hy0]; exact hlead.2⟩))] at hnum
      have HNO := Lib.hid hnum
      clear hnum
      have hz1 : (1 : Int) < (D.size : Int) := by omega
      have hy48 : (y0.toNat : Int) = 48 := f48.1 hlead.2
      clear hDl hlen hlead f48 hy0
      go_enter Tryz.func50, Tryz.ntmps50
      go_wp2
      exact bodyPost_ret (v := .tuple #[.int .i64 0, .bool false]) (by simp [results, Tryz.results50, go_sem]) rfl ⟨jretNu (R := R) (by rw [HNO.out]; rfl) (fun _ h => by rw [HNO.out] at h; cases h), rfl⟩
    have hnb : ¬ (D.data.toList = [] ∨ 19 < D.data.toList.length ∨ (1 < D.data.toList.length ∧ D.data.toList.getD 0 0 = 48)) := by
      rintro (h | h | h)
      · rw [h, List.length_nil] at hDl
        omega
      · omega
      · exact hlead ⟨by omega, by rw [← hy0]; exact h.2⟩
    rw [jnumD_ok _ _ hnb] at hnum
    clear hnb
    have hz1 : (1 : Int) < (D.size : Int) → (((y0.toNat : Int)) == 48) = false := fun h => by
      have : ¬ y0 = 48 := fun e => hlead ⟨by omega, e⟩
      have : ¬ (y0.toNat : Int) = 48 := fun e => this (f48.2 e)
      simpa using this
    have HN := Lib.hid hnum
    have HDL := Lib.hid hDl
    have HLEN := Lib.hid hlen
    clear hnum hDl hlead f48 hy0
    have hone : (1 : Int) < (D.size : Int) ∨ ¬ (1 : Int) < (D.size : Int) := Classical.em _
    rcases hone with hz | hz
    · have hz2 := hz1 hz
      clear hz1
      go_enter Tryz.func50, Tryz.ntmps50
      go_wp2
      go_loop [5, 6] (fun vu vi => ∃ k m : Nat, k ≤ D.size ∧ vu = .int .u64 m ∧ vi = .int .i64 k ∧ m < 10 ^ k ∧ dvalN D.data.toList 0 = dvalN (D.data.toList.drop k) m) (fun _ vi => D.size - (RowKit.intOf vi).toNat)
      case atStart => exact ⟨0, 0, Nat.zero_le _, rfl, rfl, by decide, rfl⟩
      case round =>
        obtain ⟨k, m, hk, rfl, rfl, hm10, hrel⟩ := hrel
        have hp19 : 10 ^ k ≤ 10 ^ 19 := Nat.pow_le_pow_right (by decide) (by omega)
        have hmm : m ≤ 9999999999999999999 := by omega
        by_cases hlt : k < D.size
        · have hkl : k < D.data.toList.length := by have := HDL.out; omega
          have hixk := jix D .i64 (k : Int) k rfl hlt
          have hg : D.data.toList.getD k 0 = D.data.toList[k] := by rw [List.getD_eq_getElem?_getD, List.getElem?_eq_getElem hkl]; rfl
          rw [List.drop_eq_getElem_cons hkl, ← hg, dvalN] at hrel
          generalize D.data.toList.getD k 0 = x at *
          have hx8 := x.toNat_lt
          have hp18 : 10 ^ k ≤ 10 ^ 18 := Nat.pow_le_pow_right (by decide) (by omega)
          have hmm2 : m ≤ 999999999999999999 := by omega
          have hpk : 10 ^ (k + 1) = 10 ^ k * 10 := Nat.pow_succ 10 k
          have hkz : (k : Int) < (D.size : Int) := by omega
          obtain ⟨z, hzx⟩ : ∃ z : Int, (x.toNat : Int) = z := ⟨_, rfl⟩
          rw [hzx] at hixk
          by_cases hd : 48 ≤ x.toNat ∧ x.toNat ≤ 57
          · rw [if_pos hd] at hrel
            have hza : 48 ≤ z := by omega
            have hzb : z ≤ 57 := by omega
            have HR := Lib.hid (⟨show (m * 10 + (x.toNat - 48)) < 10 ^ (k + 1) by omega, hrel, by omega⟩ : (m * 10 + (x.toNat - 48)) < 10 ^ (k + 1) ∧ _ ∧ ((m * 10 + (x.toNat - 48) : Nat) : Int) = (m : Int) * 10 + (z - 48))
            clear hrel hd hg hx8 hm10 hp19 hp18 hpk hzx hkl
            go_wp2
            go_round
            case rel => exact ⟨k + 1, m * 10 + (x.toNat - 48), by omega, by rw [HR.out.2.2], by go_num, HR.out.1, HR.out.2.1⟩
            case measure => simp [RowKit.intOf]; omega
          · rw [if_neg hd] at hrel
            have hnum := HN.out
            rw [hrel] at hnum
            simp only at hnum
            have HNO := Lib.hid hnum
            clear hnum
            rcases (by omega : z < 48 ∨ (48 ≤ z ∧ 57 < z)) with hzc | ⟨hzc, hzd⟩
            · clear hrel hd hg hx8 hm10 hp19 hp18 hpk hzx hkl
              go_wp2
              exact bodyPost_ret (v := .tuple #[.int .i64 0, .bool false]) (by simp [results, Tryz.results50, go_sem]) rfl ⟨jretNu (R := R) (by rw [HNO.out]; rfl) (fun _ h => by rw [HNO.out] at h; cases h), rfl⟩
            · clear hrel hd hg hx8 hm10 hp19 hp18 hpk hzx hkl
              go_wp2
              exact bodyPost_ret (v := .tuple #[.int .i64 0, .bool false]) (by simp [results, Tryz.results50, go_sem]) rfl ⟨jretNu (R := R) (by rw [HNO.out]; rfl) (fun _ h => by rw [HNO.out] at h; cases h), rfl⟩
        · obtain rfl : k = D.size := by omega
          rw [List.drop_eq_nil_of_le (by have := HDL.out; omega), dvalN] at hrel
          have hnum := HN.out
          rw [hrel] at hnum
          simp only at hnum
          have hlen := HLEN.out
          have HNU := Lib.hid hnum
          clear hrel hnum hm10 hp19 hixd
          go_wp2
          exact bodyPost_ret (v := .tuple #[.int .i64 (wrap64 (IntKind.u64.wrap (-(m : Int)))), .bool (decide ((m : Int) ≤ 9223372036854775808))]) (by simp [results, Tryz.results50, go_sem]) rfl ⟨jretNu (R := R) (negS m HNU.out).1 (negS m HNU.out).2, rfl⟩
    · clear hz1
      go_enter Tryz.func50, Tryz.ntmps50
      go_wp2
      go_loop [5, 6] (fun vu vi => ∃ k m : Nat, k ≤ D.size ∧ vu = .int .u64 m ∧ vi = .int .i64 k ∧ m < 10 ^ k ∧ dvalN D.data.toList 0 = dvalN (D.data.toList.drop k) m) (fun _ vi => D.size - (RowKit.intOf vi).toNat)
      case atStart => exact ⟨0, 0, Nat.zero_le _, rfl, rfl, by decide, rfl⟩
      case round =>
        obtain ⟨k, m, hk, rfl, rfl, hm10, hrel⟩ := hrel
        have hp19 : 10 ^ k ≤ 10 ^ 19 := Nat.pow_le_pow_right (by decide) (by omega)
        have hmm : m ≤ 9999999999999999999 := by omega
        by_cases hlt : k < D.size
        · have hkl : k < D.data.toList.length := by have := HDL.out; omega
          have hixk := jix D .i64 (k : Int) k rfl hlt
          have hg : D.data.toList.getD k 0 = D.data.toList[k] := by rw [List.getD_eq_getElem?_getD, List.getElem?_eq_getElem hkl]; rfl
          rw [List.drop_eq_getElem_cons hkl, ← hg, dvalN] at hrel
          generalize D.data.toList.getD k 0 = x at *
          have hx8 := x.toNat_lt
          have hp18 : 10 ^ k ≤ 10 ^ 18 := Nat.pow_le_pow_right (by decide) (by omega)
          have hmm2 : m ≤ 999999999999999999 := by omega
          have hpk : 10 ^ (k + 1) = 10 ^ k * 10 := Nat.pow_succ 10 k
          have hkz : (k : Int) < (D.size : Int) := by omega
          obtain ⟨z, hzx⟩ : ∃ z : Int, (x.toNat : Int) = z := ⟨_, rfl⟩
          rw [hzx] at hixk
          by_cases hd : 48 ≤ x.toNat ∧ x.toNat ≤ 57
          · rw [if_pos hd] at hrel
            have hza : 48 ≤ z := by omega
            have hzb : z ≤ 57 := by omega
            have HR := Lib.hid (⟨show (m * 10 + (x.toNat - 48)) < 10 ^ (k + 1) by omega, hrel, by omega⟩ : (m * 10 + (x.toNat - 48)) < 10 ^ (k + 1) ∧ _ ∧ ((m * 10 + (x.toNat - 48) : Nat) : Int) = (m : Int) * 10 + (z - 48))
            clear hrel hd hg hx8 hm10 hp19 hp18 hpk hzx hkl
            go_wp2
            go_round
            case rel => exact ⟨k + 1, m * 10 + (x.toNat - 48), by omega, by rw [HR.out.2.2], by go_num, HR.out.1, HR.out.2.1⟩
            case measure => simp [RowKit.intOf]; omega
          · rw [if_neg hd] at hrel
            have hnum := HN.out
            rw [hrel] at hnum
            simp only at hnum
            have HNO := Lib.hid hnum
            clear hnum
            rcases (by omega : z < 48 ∨ (48 ≤ z ∧ 57 < z)) with hzc | ⟨hzc, hzd⟩
            · clear hrel hd hg hx8 hm10 hp19 hp18 hpk hzx hkl
              go_wp2
              exact bodyPost_ret (v := .tuple #[.int .i64 0, .bool false]) (by simp [results, Tryz.results50, go_sem]) rfl ⟨jretNu (R := R) (by rw [HNO.out]; rfl) (fun _ h => by rw [HNO.out] at h; cases h), rfl⟩
            · clear hrel hd hg hx8 hm10 hp19 hp18 hpk hzx hkl
              go_wp2
              exact bodyPost_ret (v := .tuple #[.int .i64 0, .bool false]) (by simp [results, Tryz.results50, go_sem]) rfl ⟨jretNu (R := R) (by rw [HNO.out]; rfl) (fun _ h => by rw [HNO.out] at h; cases h), rfl⟩
        · obtain rfl : k = D.size := by omega
          rw [List.drop_eq_nil_of_le (by have := HDL.out; omega), dvalN] at hrel
          have hnum := HN.out
          rw [hrel] at hnum
          simp only at hnum
          have hlen := HLEN.out
          have HNU := Lib.hid hnum
          clear hrel hnum hm10 hp19 hixd
          go_wp2
          exact bodyPost_ret (v := .tuple #[.int .i64 (wrap64 (IntKind.u64.wrap (-(m : Int)))), .bool (decide ((m : Int) ≤ 9223372036854775808))]) (by simp [results, Tryz.results50, go_sem]) rfl ⟨jretNu (R := R) (negS m HNU.out).1 (negS m HNU.out).2, rfl⟩
  · obtain ⟨D, hDs⟩ : ∃ D, D = s := ⟨_, rfl⟩
    have hnum : jnumL s.data.toList = jnumD false D.data.toList := by rw [jnumL_pos _ (by rw [hx0]; exact hm), hDs]
    have hlen : ¬ (D.size : Int) < (s.size : Int) := by rw [hDs]; omega
    have hz0 : (((x0.toNat : Int)) == 45) = false := by
      have : ¬ (x0.toNat : Int) = 45 := fun e => hm (e45.2 e)
      simpa using this
    subst hDs
    clear hm e45 hsl h0
    have hDl : D.data.toList.length = D.size := by simp
    obtain ⟨R, hRR⟩ : ∃ R, jnumD false D.data.toList = R := ⟨_, rfl⟩
    rw [hnum, hRR]
    clear hnum
    have hnum := hRR.symm
    clear hRR
    by_cases hd0 : D.size = 0
    · have hl : D.data.toList = [] := List.length_eq_zero_iff.1 (by omega)
      rw [jnumD_bad _ _ (.inl hl)] at hnum
      obtain rfl : D = ⟨#[]⟩ := kstr_ext (by rw [hl])
      have HNO := Lib.hid hnum
      clear hnum
      clear hDl hl hd0 hlen hx0
      go_enter Tryz.func50, Tryz.ntmps50
      go_wp2
      exact bodyPost_ret (v := .tuple #[.int .i64 0, .bool false]) (by simp [results, Tryz.results50, go_sem]) rfl ⟨jretNu (R := R) (by rw [HNO.out]; rfl) (fun _ h => by rw [HNO.out] at h; cases h), rfl⟩
    have hdn : D.toList.isEmpty = false := by
      rw [ByteArray.toList_eq]
      cases h : D.data.toList with
      | nil => rw [h] at hDl; simp at hDl; omega
      | cons _ _ => rfl
    by_cases hd19 : 19 < D.size
    · rw [jnumD_bad _ _ (.inr (.inl (by omega)))] at hnum
      have HNO := Lib.hid hnum
      clear hnum
      have hz19 : (19 : Int) < (D.size : Int) := by omega
      clear hDl hlen hx0
      go_enter Tryz.func50, Tryz.ntmps50
      go_wp2
      exact bodyPost_ret (v := .tuple #[.int .i64 0, .bool false]) (by simp [results, Tryz.results50, go_sem]) rfl ⟨jretNu (R := R) (by rw [HNO.out]; rfl) (fun _ h => by rw [HNO.out] at h; cases h), rfl⟩
    have hz19 : ¬ (19 : Int) < (D.size : Int) := by omega
    have hixd := jix D .i64 0 0 rfl (by omega)
    obtain ⟨y0, hy0⟩ : ∃ x, D.data.toList.getD 0 0 = x := ⟨_, rfl⟩
    have f48 := u8_at y0 48
    rw [show (((48 : UInt8).toNat : Nat) : Int) = 48 from rfl] at f48
    rw [hy0] at hixd
    obtain rfl : y0 = x0 := hy0.symm.trans hx0
    clear hix hx0
    by_cases hlead : 1 < D.size ∧ y0 = 48
    · rw [jnumD_bad _ _ (.inr (.inr ⟨by omega, by rw [hy0]; exact hlead.2⟩))] at hnum
      have HNO := Lib.hid hnum
      clear hnum
      have hz1 : (1 : Int) < (D.size : Int) := by omega
      have hy48 : (y0.toNat : Int) = 48 := f48.1 hlead.2
      clear hDl hlen hlead f48 hy0
      go_enter Tryz.func50, Tryz.ntmps50
      go_wp2
      exact bodyPost_ret (v := .tuple #[.int .i64 0, .bool false]) (by simp [results, Tryz.results50, go_sem]) rfl ⟨jretNu (R := R) (by rw [HNO.out]; rfl) (fun _ h => by rw [HNO.out] at h; cases h), rfl⟩
    have hnb : ¬ (D.data.toList = [] ∨ 19 < D.data.toList.length ∨ (1 < D.data.toList.length ∧ D.data.toList.getD 0 0 = 48)) := by
      rintro (h | h | h)
      · rw [h, List.length_nil] at hDl
        omega
      · omega
      · exact hlead ⟨by omega, by rw [← hy0]; exact h.2⟩
    rw [jnumD_ok _ _ hnb] at hnum
    clear hnb
    have hz1 : (1 : Int) < (D.size : Int) → (((y0.toNat : Int)) == 48) = false := fun h => by
      have : ¬ y0 = 48 := fun e => hlead ⟨by omega, e⟩
      have : ¬ (y0.toNat : Int) = 48 := fun e => this (f48.2 e)
      simpa using this
    have HN := Lib.hid hnum
    have HDL := Lib.hid hDl
    have HLEN := Lib.hid hlen
    clear hnum hDl hlead f48 hy0
    have hone : (1 : Int) < (D.size : Int) ∨ ¬ (1 : Int) < (D.size : Int) := Classical.em _
    rcases hone with hz | hz
    · have hz2 := hz1 hz
      clear hz1
      go_enter Tryz.func50, Tryz.ntmps50
      go_wp2
      go_loop [5, 6] (fun vu vi => ∃ k m : Nat, k ≤ D.size ∧ vu = .int .u64 m ∧ vi = .int .i64 k ∧ m < 10 ^ k ∧ dvalN D.data.toList 0 = dvalN (D.data.toList.drop k) m) (fun _ vi => D.size - (RowKit.intOf vi).toNat)
      case atStart => exact ⟨0, 0, Nat.zero_le _, rfl, rfl, by decide, rfl⟩
      case round =>
        obtain ⟨k, m, hk, rfl, rfl, hm10, hrel⟩ := hrel
        have hp19 : 10 ^ k ≤ 10 ^ 19 := Nat.pow_le_pow_right (by decide) (by omega)
        have hmm : m ≤ 9999999999999999999 := by omega
        by_cases hlt : k < D.size
        · have hkl : k < D.data.toList.length := by have := HDL.out; omega
          have hixk := jix D .i64 (k : Int) k rfl hlt
          have hg : D.data.toList.getD k 0 = D.data.toList[k] := by rw [List.getD_eq_getElem?_getD, List.getElem?_eq_getElem hkl]; rfl
          rw [List.drop_eq_getElem_cons hkl, ← hg, dvalN] at hrel
          generalize D.data.toList.getD k 0 = x at *
          have hx8 := x.toNat_lt
          have hp18 : 10 ^ k ≤ 10 ^ 18 := Nat.pow_le_pow_right (by decide) (by omega)
          have hmm2 : m ≤ 999999999999999999 := by omega
          have hpk : 10 ^ (k + 1) = 10 ^ k * 10 := Nat.pow_succ 10 k
          have hkz : (k : Int) < (D.size : Int) := by omega
          obtain ⟨z, hzx⟩ : ∃ z : Int, (x.toNat : Int) = z := ⟨_, rfl⟩
          rw [hzx] at hixk
          by_cases hd : 48 ≤ x.toNat ∧ x.toNat ≤ 57
          · rw [if_pos hd] at hrel
            have hza : 48 ≤ z := by omega
            have hzb : z ≤ 57 := by omega
            have HR := Lib.hid (⟨show (m * 10 + (x.toNat - 48)) < 10 ^ (k + 1) by omega, hrel, by omega⟩ : (m * 10 + (x.toNat - 48)) < 10 ^ (k + 1) ∧ _ ∧ ((m * 10 + (x.toNat - 48) : Nat) : Int) = (m : Int) * 10 + (z - 48))
            clear hrel hd hg hx8 hm10 hp19 hp18 hpk hzx hkl
            go_wp2
            go_round
            case rel => exact ⟨k + 1, m * 10 + (x.toNat - 48), by omega, by rw [HR.out.2.2], by go_num, HR.out.1, HR.out.2.1⟩
            case measure => simp [RowKit.intOf]; omega
          · rw [if_neg hd] at hrel
            have hnum := HN.out
            rw [hrel] at hnum
            simp only at hnum
            have HNO := Lib.hid hnum
            clear hnum
            rcases (by omega : z < 48 ∨ (48 ≤ z ∧ 57 < z)) with hzc | ⟨hzc, hzd⟩
            · clear hrel hd hg hx8 hm10 hp19 hp18 hpk hzx hkl
              go_wp2
              exact bodyPost_ret (v := .tuple #[.int .i64 0, .bool false]) (by simp [results, Tryz.results50, go_sem]) rfl ⟨jretNu (R := R) (by rw [HNO.out]; rfl) (fun _ h => by rw [HNO.out] at h; cases h), rfl⟩
            · clear hrel hd hg hx8 hm10 hp19 hp18 hpk hzx hkl
              go_wp2
              exact bodyPost_ret (v := .tuple #[.int .i64 0, .bool false]) (by simp [results, Tryz.results50, go_sem]) rfl ⟨jretNu (R := R) (by rw [HNO.out]; rfl) (fun _ h => by rw [HNO.out] at h; cases h), rfl⟩
        · obtain rfl : k = D.size := by omega
          rw [List.drop_eq_nil_of_le (by have := HDL.out; omega), dvalN] at hrel
          have hnum := HN.out
          rw [hrel] at hnum
          simp only at hnum
          have hlen := HLEN.out
          have HNU := Lib.hid hnum
          clear hrel hnum hm10 hp19 hixd
          go_wp2
          exact bodyPost_ret (v := .tuple #[.int .i64 (wrap64 (m : Int)), .bool (decide ((m : Int) < 9223372036854775808))]) (by simp [results, Tryz.results50, go_sem]) rfl ⟨jretNu (R := R) (posS m HNU.out).1 (posS m HNU.out).2, rfl⟩
    · clear hz1
      go_enter Tryz.func50, Tryz.ntmps50
      go_wp2
      go_loop [5, 6] (fun vu vi => ∃ k m : Nat, k ≤ D.size ∧ vu = .int .u64 m ∧ vi = .int .i64 k ∧ m < 10 ^ k ∧ dvalN D.data.toList 0 = dvalN (D.data.toList.drop k) m) (fun _ vi => D.size - (RowKit.intOf vi).toNat)
      case atStart => exact ⟨0, 0, Nat.zero_le _, rfl, rfl, by decide, rfl⟩
      case round =>
        obtain ⟨k, m, hk, rfl, rfl, hm10, hrel⟩ := hrel
        have hp19 : 10 ^ k ≤ 10 ^ 19 := Nat.pow_le_pow_right (by decide) (by omega)
        have hmm : m ≤ 9999999999999999999 := by omega
        by_cases hlt : k < D.size
        · have hkl : k < D.data.toList.length := by have := HDL.out; omega
          have hixk := jix D .i64 (k : Int) k rfl hlt
          have hg : D.data.toList.getD k 0 = D.data.toList[k] := by rw [List.getD_eq_getElem?_getD, List.getElem?_eq_getElem hkl]; rfl
          rw [List.drop_eq_getElem_cons hkl, ← hg, dvalN] at hrel
          generalize D.data.toList.getD k 0 = x at *
          have hx8 := x.toNat_lt
          have hp18 : 10 ^ k ≤ 10 ^ 18 := Nat.pow_le_pow_right (by decide) (by omega)
          have hmm2 : m ≤ 999999999999999999 := by omega
          have hpk : 10 ^ (k + 1) = 10 ^ k * 10 := Nat.pow_succ 10 k
          have hkz : (k : Int) < (D.size : Int) := by omega
          obtain ⟨z, hzx⟩ : ∃ z : Int, (x.toNat : Int) = z := ⟨_, rfl⟩
          rw [hzx] at hixk
          by_cases hd : 48 ≤ x.toNat ∧ x.toNat ≤ 57
          · rw [if_pos hd] at hrel
            have hza : 48 ≤ z := by omega
            have hzb : z ≤ 57 := by omega
            have HR := Lib.hid (⟨show (m * 10 + (x.toNat - 48)) < 10 ^ (k + 1) by omega, hrel, by omega⟩ : (m * 10 + (x.toNat - 48)) < 10 ^ (k + 1) ∧ _ ∧ ((m * 10 + (x.toNat - 48) : Nat) : Int) = (m : Int) * 10 + (z - 48))
            clear hrel hd hg hx8 hm10 hp19 hp18 hpk hzx hkl
            go_wp2
            go_round
            case rel => exact ⟨k + 1, m * 10 + (x.toNat - 48), by omega, by rw [HR.out.2.2], by go_num, HR.out.1, HR.out.2.1⟩
            case measure => simp [RowKit.intOf]; omega
          · rw [if_neg hd] at hrel
            have hnum := HN.out
            rw [hrel] at hnum
            simp only at hnum
            have HNO := Lib.hid hnum
            clear hnum
            rcases (by omega : z < 48 ∨ (48 ≤ z ∧ 57 < z)) with hzc | ⟨hzc, hzd⟩
            · clear hrel hd hg hx8 hm10 hp19 hp18 hpk hzx hkl
              go_wp2
              exact bodyPost_ret (v := .tuple #[.int .i64 0, .bool false]) (by simp [results, Tryz.results50, go_sem]) rfl ⟨jretNu (R := R) (by rw [HNO.out]; rfl) (fun _ h => by rw [HNO.out] at h; cases h), rfl⟩
            · clear hrel hd hg hx8 hm10 hp19 hp18 hpk hzx hkl
              go_wp2
              exact bodyPost_ret (v := .tuple #[.int .i64 0, .bool false]) (by simp [results, Tryz.results50, go_sem]) rfl ⟨jretNu (R := R) (by rw [HNO.out]; rfl) (fun _ h => by rw [HNO.out] at h; cases h), rfl⟩
        · obtain rfl : k = D.size := by omega
          rw [List.drop_eq_nil_of_le (by have := HDL.out; omega), dvalN] at hrel
          have hnum := HN.out
          rw [hrel] at hnum
          simp only at hnum
          have hlen := HLEN.out
          have HNU := Lib.hid hnum
          clear hrel hnum hm10 hp19 hixd
          go_wp2
          exact bodyPost_ret (v := .tuple #[.int .i64 (wrap64 (m : Int)), .bool (decide ((m : Int) < 9223372036854775808))]) (by simp [results, Tryz.results50, go_sem]) rfl ⟨jretNu (R := R) (posS m HNU.out).1 (posS m HNU.out).2, rfl⟩
end Go.Proofs.YtkkiklaoljdhhaaGreatDoor
end
section
namespace Go.Proofs.YtkkiklaoljdhhaaGreatDoor
open Go.RowKit
set_option maxRecDepth 100000 in
set_option maxHeartbeats 2000000 in
theorem jref_spaces (s : ByteArray) (i : Nat) (w : World) (hs : s.size ≤ 1000000) (hi : i ≤ 2000000) :
    Calls Tryz.prog 24 #[.string s, .int .i64 i] w fun e w' => e = .returned (.int .i64 (spP s.data.toList i)) ∧ w = w' := by
  have hsl : s.data.toList.length = s.size := by simp
  have HSL := Lib.hid hsl
  clear hsl
  go_enter Tryz.func24, Tryz.ntmps24
  go_wp2
  go_loop [1] (fun q => ∃ k : Nat, k ≤ 2000000 ∧ q = .int .i64 k ∧ spP s.data.toList i = spP s.data.toList k) (fun q => s.size - (intOf q).toNat)
  case atStart => exact ⟨i, hi, rfl, rfl⟩
  case round =>
    obtain ⟨k, hk, rfl, hrel⟩ := hrel
    by_cases hlt : k < s.size
    · have hkl : k < s.data.toList.length := by have := HSL.out; omega
      obtain ⟨x, hx⟩ : ∃ x, s[k]'hlt = x := ⟨_, rfl⟩
      have hxl : s.data.toList[k]'hkl = x := by rw [← hx]; simp [ByteArray.getElem_eq_getElem_data]
      have cS : ∀ wx, _ := fun wx => ref_IsSpace (x.toNat : Int) wx
      have hkz : (k : Int) < (s.size : Int) := by omega
      rcases hsp : spB x with _ | _
      · have hv := hrel.trans (spP_no s.data.toList k hkl (by rw [hxl]; exact hsp))
        have HV := Lib.hid hv
        rw [show isSpaceB (x.toNat : Int) = false from hsp] at cS
        clear hrel hv hxl hsp
        (go_wp2_with fail); (refine (cS _).mono ?_); (rintro e w' ⟨rfl, rfl⟩)
        go_wp2
        go_ret
        exact ⟨kretI (by rw [HV.out]), rfl⟩
      · have hv := hrel.trans (spP_yes s.data.toList k hkl (by rw [hxl]; exact hsp))
        have HV := Lib.hid hv
        rw [show isSpaceB (x.toNat : Int) = true from hsp] at cS
        clear hrel hv hxl hsp
        (go_wp2_with fail); (refine (cS _).mono ?_); (rintro e w' ⟨rfl, rfl⟩)
        go_wp2
        go_round
        case rel => exact ⟨k + 1, by omega, by go_num, HV.out⟩
        case measure => simp [intOf]; omega
    · have hv := hrel.trans (spP_end s.data.toList k (by have := HSL.out; omega))
      have HV := Lib.hid hv
      have hkz : ¬ (k : Int) < (s.size : Int) := by omega
      clear hrel hv
      go_wp2
      go_ret
      exact ⟨kretI (by rw [HV.out]), rfl⟩
def jnumB (c : Int) : Bool := decide (48 ≤ c ∧ c ≤ 57 ∨ c = 43 ∨ c = 45 ∨ c = 46 ∨ c = 101 ∨ c = 69)
set_option maxRecDepth 100000 in
set_option maxHeartbeats 2000000 in
theorem jref_numeric (c : Int) (w : World) :
    Calls Tryz.prog 49 #[.int .u8 c] w fun e w' => e = .returned (.bool (jnumB c)) ∧ w = w' := by
  go_enter Tryz.func49, Tryz.ntmps49
  go_wp2
  all_goals go_ret
  all_goals (refine ⟨kretB ?_, rfl⟩; rw [Bool.eq_iff_iff]; simp [jnumB]; try omega)
def errV (a e : Int) : Value := .agg #[.int .i64 0, .bool false, .int .i64 0, .string ⟨#[]⟩, .slice none 0 0, .slice none 0 0, .int .i64 0, .int .i64 a, .int .i64 e]
def wrongE (n a : Nat) : Int × Int := if n ≤ a then (n, 8) else (a, 7)
set_option maxRecDepth 100000 in
set_option maxHeartbeats 2000000 in
theorem jref_wrong (s : ByteArray) (a : Nat) (w : World) :
    Calls Tryz.prog 45 #[.string s, .int .i64 a] w fun e w' => e = .returned (errV (wrongE s.size a).1 (wrongE s.size a).2) ∧ Below w.heap.size w w' := by
  have hw : wrongE s.size a = if s.size ≤ a then ((s.size : Int), 8) else ((a : Int), 7) := rfl
  generalize wrongE s.size a = R at *
  by_cases h : s.size ≤ a
  · rw [if_pos h] at hw
    subst hw
    go_enter Tryz.func45, Tryz.ntmps45
    go_wp2
    refine bodyPost_ret (v := errV s.size 8) (by simp [results, Tryz.results45, go_sem, errV]) rfl ⟨rfl, ?_⟩
    exact (Below.refl _ _).alloc (Nat.le_refl _) _
  · rw [if_neg h] at hw
    subst hw
    go_enter Tryz.func45, Tryz.ntmps45
    go_wp2
    refine bodyPost_ret (v := errV a 7) (by simp [results, Tryz.results45, go_sem, errV]) rfl ⟨rfl, ?_⟩
    exact (Below.refl _ _).alloc (Nat.le_refl _) _
def resV (K : Int) (B : Bool) (N : Int) (x : ByteArray) (p : Option Addr) (m c : Nat) (q : Option Addr) (l d : Nat) (a u e : Int) : Value := .agg #[.int .i64 K, .bool B, .int .i64 N, .string x, .slice p m c, .slice q l d, .int .i64 a, .int .i64 u, .int .i64 e]
set_option maxRecDepth 100000 in
set_option maxHeartbeats 4000000 in
theorem jref_word (s t : ByteArray) (a : Nat) (K : Int) (B : Bool) (w : World) (hs : s.size ≤ 1000000) (ht : t.size ≤ 1000) (ht0 : 0 < t.size) (ha : a ≤ 1000000) :
    Calls Tryz.prog 46 #[.string s, .int .i64 a, .string t, .agg #[.int .i64 K, .bool B, .int .i64 0, .string ⟨#[]⟩, .slice none 0 0, .slice none 0 0, .int .i64 0]] w fun e w' => e = .returned (if hasP s.data.toList a t.data.toList = true then resV K B 0 ⟨#[]⟩ none 0 0 none 0 0 a ((a + t.size : Nat) : Int) 0 else errV (wrongE s.size a).1 (wrongE s.size a).2) ∧ Below w.heap.size w w' := by
  have cH : ∀ wx, _ := fun wx => tref_Has s t a wx hs (by omega) ht0 (by omega)
  have cW : ∀ wx, _ := fun wx => jref_wrong s a wx
  have hab : ∀ o1 o2 : Obj, Below w.heap.size w ((w.alloc o1).alloc o2) := fun o1 o2 => ((Below.refl _ _).alloc (Nat.le_refl _) _).alloc (by simp) _
  generalize hasP s.data.toList a t.data.toList = b at *
  have hB1 := Bj.second w (.cells #[.int .i64 K, .bool B, .int .i64 0, .string ⟨#[]⟩, .slice none 0 0, .slice none 0 0, .int .i64 0] 26) #[.int .i64 0, .bool false, .int .i64 0, .string ⟨#[]⟩, .slice none 0 0, .slice none 0 0, .int .i64 0, .int .i64 0, .int .i64 0] 54
  have hB0 := Bj.first w (.cells #[.int .i64 0, .bool false, .int .i64 0, .string ⟨#[]⟩, .slice none 0 0, .slice none 0 0, .int .i64 0, .int .i64 0, .int .i64 0] 54) #[.int .i64 K, .bool B, .int .i64 0, .string ⟨#[]⟩, .slice none 0 0, .slice none 0 0, .int .i64 0] 26
  have hbb := hab (.cells #[.int .i64 K, .bool B, .int .i64 0, .string ⟨#[]⟩, .slice none 0 0, .slice none 0 0, .int .i64 0] 26) (.cells #[.int .i64 0, .bool false, .int .i64 0, .string ⟨#[]⟩, .slice none 0 0, .slice none 0 0, .int .i64 0, .int .i64 0, .int .i64 0] 54)
  have hsz : ((w.alloc (.cells #[.int .i64 K, .bool B, .int .i64 0, .string ⟨#[]⟩, .slice none 0 0, .slice none 0 0, .int .i64 0] 26)).alloc (.cells #[.int .i64 0, .bool false, .int .i64 0, .string ⟨#[]⟩, .slice none 0 0, .slice none 0 0, .int .i64 0, .int .i64 0, .int .i64 0] 54)).heap.size = w.heap.size + 2 := by simp
  clear hab
  rcases b with _ | _
  · generalize (wrongE s.size a).1 = x1 at *
    generalize (wrongE s.size a).2 = x2 at *
    unfold errV at cW
    go_enter Tryz.func46, Tryz.ntmps46
    go_wp2_with fail
    refine (cH _).mono ?_
    rintro e w1 ⟨rfl, rfl⟩
    go_wp2_with fail
    refine (cW _).mono ?_
    rintro e w2 ⟨rfl, b2⟩
    obtain ⟨⟨r0, r1, r2, r3, r4, r5, r6, r7, r8⟩, k0, k1, k2, k3, k4, k5, k6, k7, k8⟩ := (hB1.more b2).nine
    have HBo := Lib.hid (hbb.trans (b2.mono (by omega)))
    clear b2 hB0 hB1 hbb hsz
    go_wp2
    refine bodyPost_ret (v := errV x1 x2) (by simp [results, Tryz.results46, go_sem, errV, jset_same, r0, r1, r2, r3, r4, r5, r6, r7, r8]) rfl ⟨by simp, ?_⟩
    exact (jset9 (Pj.refl (fun b => b = w.heap.size + 1) w2) (b := w.heap.size + 1) (.inl rfl) 0 _ _ _ _ _ _ _ _ _).below HBo.out (fun b hb => by omega) HBo.out.size
  · go_enter Tryz.func46, Tryz.ntmps46
    go_wp2_with fail
    refine (cH _).mono ?_
    rintro e w1 ⟨rfl, rfl⟩
    generalize ((w.alloc (.cells #[.int .i64 K, .bool B, .int .i64 0, .string ⟨#[]⟩, .slice none 0 0, .slice none 0 0, .int .i64 0] 26)).alloc (.cells #[.int .i64 0, .bool false, .int .i64 0, .string ⟨#[]⟩, .slice none 0 0, .slice none 0 0, .int .i64 0, .int .i64 0, .int .i64 0] 54)) = W at *
    obtain ⟨⟨r0, r1, r2, r3, r4, r5, r6, r7, r8⟩, k0, k1, k2, k3, k4, k5, k6, k7, k8⟩ := hB1.nine
    obtain ⟨⟨q0, q1, q2, q3, q4, q5, q6⟩, j0, j1, j2, j3, j4, j5, j6⟩ := hB0.seven
    have HBo := Lib.hid hbb
    clear hB0 hB1 hbb hsz
    go_wp2
    refine bodyPost_ret (v := resV K B 0 ⟨#[]⟩ none 0 0 none 0 0 a ((a + t.size : Nat) : Int) 0) (by simp [results, Tryz.results46, go_sem, resV, jset_same, r0, r1, r2, r3, r4, r5, r6, r7, r8]) rfl ⟨by simp, ?_⟩
    exact (jset9 ((Pj.refl (fun b => b = w.heap.size ∨ b = w.heap.size + 1) W).set (q := ⟨w.heap.size, 6, none⟩) (.inl (.inl rfl)) _) (b := w.heap.size + 1) (.inl (.inr rfl)) 0 _ _ _ _ _ _ _ _ _).below HBo.out (fun b hb => by omega) HBo.out.size
end Go.Proofs.YtkkiklaoljdhhaaGreatDoor
end
section
namespace Go.Proofs.YtkkiklaoljdhhaaGreatDoor
open Go.RowKit
inductive Jres where
  | err (a e : Int)
  | ok (v : ValD) (k : Nat)
def Jres.plus (c : Nat) : Jres → Jres
  | .err a e => .err a e
  | .ok v k => .ok v (c + k)
inductive Kres where
  | err (a e : Int)
  | ok (key : List UInt8) (k : Nat)
def spN (l : List UInt8) : Nat := (l.takeWhile spB).length
theorem spN_le (l : List UInt8) : spN l ≤ l.length := (List.takeWhile_prefix spB).length_le
theorem spP_spN (l : List UInt8) (i : Nat) : spP l i = i + spN (l.drop i) := rfl
def wrongK (i : Nat) (l : List UInt8) : Int × Int := if l = [] then (i, 8) else (i, 7)
theorem wrongE_drop (l : List UInt8) (i : Nat) (h : i ≤ l.length) : wrongE l.length i = wrongK i (l.drop i) := by
  unfold wrongE wrongK
  by_cases hi : l.length ≤ i
  · rw [if_pos hi, if_pos (List.drop_eq_nil_of_le hi)]
    obtain rfl : i = l.length := by omega
    rfl
  · rw [if_neg hi, if_neg (fun e => by have := congrArg List.length e; rw [List.length_drop] at this; simp at this; omega)]
def leafV (K : Int) (B : Bool) (N : Int) (x : ByteArray) (i : Nat) : ValD := .mk K B N x [] [] i
def wordK (i : Nat) (l t : List UInt8) (K : Int) (B : Bool) : Jres := if t.isPrefixOf l = true then .ok (leafV K B 0 ⟨#[]⟩ i) t.length else .err (wrongK i l).1 (wrongK i l).2
def strK (i : Nat) (l : List UInt8) : Jres :=
  if (parJ i (i + 1) (l.drop 1) []).2.2 ≠ 0 then .err (parJ i (i + 1) (l.drop 1) []).2.1 (parJ i (i + 1) (l.drop 1) []).2.2
  else .ok (leafV 3 false 0 (ofBytes (parJ i (i + 1) (l.drop 1) []).1) i) ((parJ i (i + 1) (l.drop 1) []).2.1 - i).toNat
def numP (c : UInt8) : Bool := jnumB (c.toNat : Int)
def numK (i : Nat) (l : List UInt8) : Jres := match jnumL (l.takeWhile numP) with
  | some n => .ok (leafV 2 false n ⟨#[]⟩ i) (l.takeWhile numP).length
  | none => .err i 15
def keyK (i : Nat) (l : List UInt8) (keys : List ByteArray) : Kres :=
  if l.getD 0 0 ≠ 34 then .err (wrongK i l).1 (wrongK i l).2
  else if (parJ i (i + 1) (l.drop 1) []).2.2 ≠ 0 then .err (parJ i (i + 1) (l.drop 1) []).2.1 (parJ i (i + 1) (l.drop 1) []).2.2
  else if keys.any (fun x => decide (x = ofBytes (parJ i (i + 1) (l.drop 1) []).1)) = true then .err i 10
  else
    let k := ((parJ i (i + 1) (l.drop 1) []).2.1 - i).toNat
    let n := k + spN (l.drop k)
    if [(58 : UInt8)].isPrefixOf (l.drop n) = true then .ok (parJ i (i + 1) (l.drop 1) []).1 (n + 1) else .err (wrongK (i + n) (l.drop n)).1 (wrongK (i + n) (l.drop n)).2
def endB (obj : Bool) : UInt8 := if obj then 125 else 93
def kindB (obj : Bool) : Int := if obj then 5 else 4
mutual
def valK : Nat → Nat → List UInt8 → Nat → Jres
  | 0, i, _, _ => .err i 0
  | f + 1, i, l, d => (headK f (i + spN l) (l.drop (spN l)) d).plus (spN l)
def headK : Nat → Nat → List UInt8 → Nat → Jres
  | 0, i, _, _ => .err i 0
  | f + 1, i, l, d =>
    if l = [] then .err i 8
    else if l.getD 0 0 = 110 then wordK i l [110, 117, 108, 108] 0 false
    else if l.getD 0 0 = 116 then wordK i l [116, 114, 117, 101] 1 true
    else if l.getD 0 0 = 102 then wordK i l [102, 97, 108, 115, 101] 1 false
    else if l.getD 0 0 = 34 then strK i l
    else if l.getD 0 0 = 91 ∨ l.getD 0 0 = 123 then
      (if d > 100 then .err i 9
       else if [endB (decide (l.getD 0 0 = 123))].isPrefixOf (l.drop (1 + spN (l.drop 1))) = true then .ok (.mk (kindB (decide (l.getD 0 0 = 123))) false 0 ⟨#[]⟩ [] [] i) (1 + spN (l.drop 1) + 1)
       else (listK f (decide (l.getD 0 0 = 123)) i [] [] (i + (1 + spN (l.drop 1))) (l.drop (1 + spN (l.drop 1))) d).plus (1 + spN (l.drop 1)))
    else if l.getD 0 0 = 45 ∨ (48 ≤ (l.getD 0 0).toNat ∧ (l.getD 0 0).toNat ≤ 57) then numK i l
    else .err i 7
def listK : Nat → Bool → Nat → List ValD → List MemD → Nat → List UInt8 → Nat → Jres
  | 0, _, _, _, _, i, _, _ => .err i 0
  | f + 1, obj, fr, items, mems, i, l, d =>
    match (if obj then keyK (i + spN l) (l.drop (spN l)) (mems.map MemD.key) else Kres.ok [] 0) with
    | .err a e => .err a e
    | .ok key k =>
      match valK f (i + (spN l + k)) (l.drop (spN l + k)) (d + 1) with
      | .err a e => .err a e
      | .ok v kv =>
        let n := spN l + k + kv + spN (l.drop (spN l + k + kv))
        let items' := if obj then items else items ++ [v]
        let mems' := if obj then mems ++ [.mk (ofBytes key) v (i + spN l : Nat)] else mems
        if [endB obj].isPrefixOf (l.drop n) = true then .ok (.mk (kindB obj) false 0 ⟨#[]⟩ items' mems' fr) (n + 1)
        else if [(44 : UInt8)].isPrefixOf (l.drop n) = true then (listK f obj fr items' mems' (i + (n + 1)) (l.drop (n + 1)) d).plus (n + 1)
        else .err (wrongK (i + n) (l.drop n)).1 (wrongK (i + n) (l.drop n)).2
end
theorem parJ_end (a : Int) : ∀ (n : Nat) (l : List UInt8) (i : Int) (out : List UInt8), l.length ≤ n → (parJ a i l out).2.2 = 0 → i + 1 ≤ (parJ a i l out).2.1 ∧ (parJ a i l out).2.1 ≤ i + l.length
  | 0, l, i, out, hn, h => by
    obtain rfl : l = [] := List.length_eq_zero_iff.1 (by omega)
    rw [parJ_nil] at h
    exact absurd h (by simp)
  | n + 1, l, i, out, hn, h => by
    by_cases hl : l = []
    · subst hl
      rw [parJ_nil] at h
      exact absurd h (by simp)
    have hpos := List.length_pos_iff.2 hl
    rw [parJ_eq a i l out hl] at h ⊢
    by_cases h1 : l.getD 0 0 = 34
    · rw [if_pos h1]
      simp only
      omega
    rw [if_neg h1] at h ⊢
    by_cases h2 : l.getD 0 0 = 92
    · rw [if_pos h2] at h ⊢
      by_cases h3 : l.length = 1
      · rw [if_pos h3] at h
        exact absurd h (by simp)
      rw [if_neg h3] at h ⊢
      by_cases h4 : (seqL l).2 = 0
      · rw [if_pos h4] at h
        exact absurd h (by simp)
      rw [if_neg h4] at h ⊢
      have hk := (seqL_ok l (by omega)).1
      have := parJ_end a n (l.drop (seqL l).2) _ _ (by rw [List.length_drop]; omega) h
      rw [List.length_drop] at this
      omega
    rw [if_neg h2] at h ⊢
    by_cases h5 : (l.getD 0 0).toNat < 32
    · rw [if_pos h5] at h
      exact absurd h (by simp)
    rw [if_neg h5] at h ⊢
    by_cases h6 : (decL l).2 = 0
    · rw [if_pos h6] at h
      exact absurd h (by simp)
    rw [if_neg h6] at h ⊢
    have hk := (decL_ok l hl).1
    have := parJ_end a n (l.drop (decL l).2) _ _ (by rw [List.length_drop]; omega) h
    rw [List.length_drop] at this
    omega
end Go.Proofs.YtkkiklaoljdhhaaGreatDoor
end
