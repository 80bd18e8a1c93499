/- The laws of layer 10: the walk of Numbers. -/
import Derived.Test.YtdkinamblobjpaaDoorJsL
import Derived.BigRegion
import Derived.Laws.BitsAllLaws
namespace Go.Proofs.YtdkinamblobjpaaDoor
open Go.RowKit

def dgZ (u : Bool) (q : Int) : Int := if q < 10 then 48 + q else if u then 55 + q else 87 + q
theorem digJ_eq : ∀ (u : Bool) (n : Fin 16), (((digJ u n.val).toNat : Nat) : Int) = dgZ u (n.val : Int) := by decide
def dgS (u : Bool) : ByteArray := if u then ⟨#[48, 49, 50, 51, 52, 53, 54, 55, 56, 57, 65, 66, 67, 68, 69, 70]⟩ else ⟨#[48, 49, 50, 51, 52, 53, 54, 55, 56, 57, 97, 98, 99, 100, 101, 102]⟩
theorem dgS_at : ∀ (u : Bool) (n : Fin 16), (((dgS u).data.toList.getD n.val 0).toNat : Int) = dgZ u (n.val : Int) := by decide
theorem dig_at (u : Bool) (z : Int) (h0 : 0 ≤ z) (h1 : z < 16) (k : IntKind) (w : World) : (Instr.index 9 (.string (dgS u)) (.int k z)).run Tryd.prog w = .ok (.int .u8 (dgZ u z)) w := by
  obtain ⟨n, rfl⟩ := Int.eq_ofNat_of_zero_le h0
  have := jix (dgS u) k (n : Int) n rfl (by cases u <;> (show n < 16; omega)) w
  rw [dgS_at u ⟨n, by omega⟩] at this
  exact this
theorem jand15w (z : Int) (h0 : 0 ≤ z) (h1 : z < 65536) : bits .and .u16 z 15 = z % 16 := by
  obtain ⟨m, rfl⟩ := Int.eq_ofNat_of_zero_le h0
  have := u16_and_nat m 15 (by omega) (by omega)
  rw [show ((15 : Nat) : Int) = 15 from rfl] at this
  rw [this, show m &&& 15 = m % 16 from Nat.and_two_pow_sub_one_eq_mod m 4]
  omega
theorem jstr_data (u : Bool) (n q1 q2 q3 q4 : Int) (h0 : 0 ≤ n) (h1 : n ≤ 65535) (e : q1 = n / 4096 ∧ q2 = n / 256 % 16 ∧ q3 = n / 16 % 16 ∧ q4 = n % 16) : (strOfNums [dgZ u q1, dgZ u q2, dgZ u q3, dgZ u q4]).data.toList = numJ u n.toNat := by
  obtain ⟨m, rfl⟩ := Int.eq_ofNat_of_zero_le h0
  obtain ⟨rfl, rfl, rfl, rfl⟩ := e
  have a1 := digJ_eq u ⟨m / 4096, by omega⟩
  have a2 := digJ_eq u ⟨m / 256 % 16, by omega⟩
  have a3 := digJ_eq u ⟨m / 16 % 16, by omega⟩
  have a4 := digJ_eq u ⟨m % 16, by omega⟩
  simp only at a1 a2 a3 a4
  rw [strOfNums_data, Int.toNat_natCast, show (m : Int) / 4096 = ((m / 4096 : Nat) : Int) by omega, show (m : Int) / 256 % 16 = ((m / 256 % 16 : Nat) : Int) by omega, show (m : Int) / 16 % 16 = ((m / 16 % 16 : Nat) : Int) by omega, show (m : Int) % 16 = ((m % 16 : Nat) : Int) by omega, ← a1, ← a2, ← a3, ← a4]
  simp [numJ]
theorem eb_scalar (r : Int) (h0 : 0 ≤ r) (h1 : r ≤ 1114111) (hs : ¬ (55296 ≤ r ∧ r ≤ 57343)) : eb r ≠ [] := by
  unfold eb encZ
  rw [if_neg (by omega)]
  repeat' split
  all_goals simp
set_option maxRecDepth 100000 in
set_option maxHeartbeats 32000000 in
theorem walk_JsNumbers (n : Int) (u : Bool) (w : World) (hT : TabJ w) (hn0 : 0 ≤ n) (hn1 : n ≤ 65535) :
    Calls Tryd.prog 7 #[.int .u16 n, .bool u] w fun e w' => e = .returned (.bool true) ∧ Below w.heap.size w w' := by
  obtain ⟨q1, hq1⟩ : ∃ q, n / 4096 = q := ⟨_, rfl⟩
  obtain ⟨q2, hq2⟩ : ∃ q, bits .and .u16 (n / 256) 15 = q := ⟨_, rfl⟩
  obtain ⟨q3, hq3⟩ : ∃ q, bits .and .u16 (n / 16) 15 = q := ⟨_, rfl⟩
  obtain ⟨q4, hq4⟩ : ∃ q, bits .and .u16 n 15 = q := ⟨_, rfl⟩
  have e2 := jand15w (n / 256) (by omega) (by omega)
  have e3 := jand15w (n / 16) (by omega) (by omega)
  have e4 := jand15w n (by omega) (by omega)
  rw [hq2] at e2
  rw [hq3] at e3
  rw [hq4] at e4
  have x1 := fun w => dig_at u q1 (by omega) (by omega) .u16 w
  have x2 := fun w => dig_at u q2 (by omega) (by omega) .u16 w
  have x3 := fun w => dig_at u q3 (by omega) (by omega) .u16 w
  have x4 := fun w => dig_at u q4 (by omega) (by omega) .u16 w
  have HE := Lib.hid (show q1 = n / 4096 ∧ q2 = n / 256 % 16 ∧ q3 = n / 16 % 16 ∧ q4 = n % 16 from ⟨hq1.symm, e2, e3, e4⟩)
  clear e2 e3 e4
  obtain ⟨N, hN⟩ := Int.eq_ofNat_of_zero_le hn0
  cases u
  · 
    have hDd := jstr_data false n q1 q2 q3 q4 hn0 hn1 HE.out
    obtain ⟨D, hD⟩ : ∃ D, strOfNums [dgZ false q1, dgZ false q2, dgZ false q3, dgZ false q4] = D := ⟨_, rfl⟩
    rw [hD] at hDd
    have hDz : D.size = 4 := by
      have : D.data.toList.length = D.size := by simp
      rw [← this, hDd]; rfl
    have hcv := conv4 w (dgZ false q1) (dgZ false q2) (dgZ false q3) (dgZ false q4)
    rw [hD] at hcv
    have hcd : (convert 38 9 (.slice (some ⟨w.heap.size, 0, none⟩) 4 4)).run Tryd.prog (w.alloc (.cells #[.int .u8 (dgZ false q1), .int .u8 (dgZ false q2), .int .u8 (dgZ false q3), .int .u8 (dgZ false q4)] 5)).drew = .ok (.string (strOfNums [dgZ false q1, dgZ false q2, dgZ false q3, dgZ false q4])) (w.alloc (.cells #[.int .u8 (dgZ false q1), .int .u8 (dgZ false q2), .int .u8 (dgZ false q3), .int .u8 (dgZ false q4)] 5)).drew :=
      run_convert_bytes_arg _ 38 5 Tryd.underlying38 Tryd.underlying5 _ 0 4 4 [dgZ false q1, dgZ false q2, dgZ false q3, dgZ false q4] rfl (fun i hi => by
        match i, hi with
        | 0, _ => simp
        | 1, _ => simp
        | 2, _ => simp
        | 3, _ => simp) 9 Tryd.underlying9
    rw [hD] at hcd
    obtain ⟨S1, hS1⟩ : ∃ S1, S1 = (⟨#[34, 92, 117]⟩ : ByteArray) ++ D ++ ⟨#[34]⟩ := ⟨_, rfl⟩
    have hS1d : S1.data.toList = 34 :: 92 :: 117 :: (numJ false N ++ [34]) := by
      rw [hS1, ByteArray.data_append, ByteArray.data_append, Array.toList_append, Array.toList_append, hDd, hN, Int.toNat_natCast]; rfl
    have hS1z : S1.size = 8 := by
      have : S1.data.toList.length = S1.size := by simp
      rw [← this, hS1d]; rfl
    obtain ⟨S2, hS2⟩ : ∃ S2, S2 = (⟨#[34, 92, 117]⟩ : ByteArray) ++ D ++ ⟨#[92, 117, 100, 99, 48, 49, 34]⟩ := ⟨_, rfl⟩
    have hS2d : S2.data.toList = 34 :: 92 :: 117 :: (numJ false N ++ [92, 117, 100, 99, 48, 49, 34]) := by
      rw [hS2, ByteArray.data_append, ByteArray.data_append, Array.toList_append, Array.toList_append, hDd, hN, Int.toNat_natCast]; rfl
    have hS2z : S2.size = 14 := by
      have : S2.data.toList.length = S2.size := by simp
      rw [← this, hS2d]; rfl
    have hP7 : ∀ wx, _ := fun wx => slice_to S1 7 (by omega) (by omega) wx
    rw [show S1.extract 0 (7 : Int).toNat = (⟨#[34, 92, 117]⟩ : ByteArray) ++ D by
      apply estr_ext
      rw [eext, ofBytes_list, hS1d, ByteArray.data_append, Array.toList_append, hDd, hN, Int.toNat_natCast]; rfl] at hP7
    have c1 : ∀ wx, TabJ wx → _ := fun wx => js_Parse S1 0 wx (by omega)
    have c2 : ∀ wx, TabJ wx → _ := fun wx => js_Parse S2 0 wx (by omega)
    have cE : ∀ wx, _ := fun wx => ref_Encode n wx
    rw [eb_str] at cE
    rw [hS1d] at c1
    rw [hS2d] at c2
    clear hD hDd hS1d hS2d hcv
    have t0 : TabJ ((w.alloc (.cells #[.int .u8 (dgZ false q1), .int .u8 (dgZ false q2), .int .u8 (dgZ false q3), .int .u8 (dgZ false q4)] 5)).drew) := TabJ_below hT (((Below.refl _ _).alloc (Nat.le_refl _) _).drew)
    have b0 : Below w.heap.size w ((w.alloc (.cells #[.int .u8 (dgZ false q1), .int .u8 (dgZ false q2), .int .u8 (dgZ false q3), .int .u8 (dgZ false q4)] 5)).drew) := ((Below.refl _ _).alloc (Nat.le_refl _) _).drew
    generalize dgZ false q1 = d1 at *
    generalize dgZ false q2 = d2 at *
    generalize dgZ false q3 = d3 at *
    generalize dgZ false q4 = d4 at *
    rw [show dgS false = ⟨#[48, 49, 50, 51, 52, 53, 54, 55, 56, 57, 97, 98, 99, 100, 101, 102]⟩ from rfl] at x1 x2 x3 x4
    have HS1 := Lib.hid hS1
    have HS2 := Lib.hid hS2
    clear hS1 hS2
    by_cases hs : 55296 ≤ n ∧ n ≤ 57343
    · obtain ⟨hs0, hs1⟩ := hs
      rw [parP_sur false N (by omega) (by omega)] at c1
      rw [parP_pair false N (by omega) (by omega)] at c2
      rw [show eb n = [] by unfold eb encZ; rw [if_pos (by omega)]; rfl] at cE
      rw [show ofBytes [] = (⟨#[]⟩ : ByteArray) from rfl] at c1 cE
      by_cases hh : N ≤ 56319
      · rw [if_pos hh, ← hN] at c2
        have cF : ∀ wx, _ := fun wx => ref_Encode (65537 + (n - 55296) * 1024) wx
        rw [eb_str] at cF
        simp only at c2
        generalize ofBytes (eb (65537 + (n - 55296) * 1024)) = F at *
        have hn56 : n < 56320 := by omega
        have HN := Lib.hid hN
        clear hh hN
        go_enter Tryd.func7, Tryd.ntmps7
        go_wp2
        go_region
        go_wp2_with fail
        rw [← HS1.out]
        refine (c1 _ t0).mono ?_
        rintro e w1 ⟨rfl, b1⟩
        have t1 := TabJ_below t0 b1
        go_wp2_with fail
        refine (cE _).mono ?_
        rintro e w2 ⟨rfl, b2⟩
        have t2 := TabJ_below t1 b2
        go_wp2_with fail
        rw [← HS2.out]
        refine (c2 _ t2).mono ?_
        rintro e w3 ⟨rfl, b3⟩
        have t3 := TabJ_below t2 b3
        (go_wp2_with fail); (refine (js_alive _ t3).mono ?_); (rintro e w4 ⟨rfl, b4⟩)
        go_wp2_with fail
        refine (cF _).mono ?_
        rintro e w5 ⟨rfl, b5⟩
        have z1 := b1.size
        have z2 := b2.size
        have z3 := b3.size
        have z4 := b4.size
        have z0 := b0.size
        go_wp2
        go_ret
        exact ⟨by simp, ((((b0.trans (b1.mono z0)).trans (b2.mono (by omega))).trans (b3.mono (by omega))).trans (b4.mono (by omega))).trans (b5.mono (by omega))⟩
      · rw [if_neg hh, show ofBytes [] = (⟨#[]⟩ : ByteArray) from rfl] at c2
        have hn56 : 56320 ≤ n := by omega
        have HN := Lib.hid hN
        clear hh hN
        go_enter Tryd.func7, Tryd.ntmps7
        go_wp2
        go_region
        go_wp2_with fail
        rw [← HS1.out]
        refine (c1 _ t0).mono ?_
        rintro e w1 ⟨rfl, b1⟩
        have t1 := TabJ_below t0 b1
        go_wp2_with fail
        refine (cE _).mono ?_
        rintro e w2 ⟨rfl, b2⟩
        have t2 := TabJ_below t1 b2
        go_wp2_with fail
        rw [← HS2.out]
        refine (c2 _ t2).mono ?_
        rintro e w3 ⟨rfl, b3⟩
        have t3 := TabJ_below t2 b3
        (go_wp2_with fail); (refine (js_alive _ t3).mono ?_); (rintro e w4 ⟨rfl, b4⟩)
        have z1 := b1.size
        have z2 := b2.size
        have z3 := b3.size
        have z0 := b0.size
        go_wp2
        go_ret
        exact ⟨by simp, (((b0.trans (b1.mono z0)).trans (b2.mono (by omega))).trans (b3.mono (by omega))).trans (b4.mono (by omega))⟩
    · rw [parP_num false N (by omega) (by omega), ← hN] at c1
      have hne := eb_scalar n hn0 (by omega) hs
      simp only at c1
      obtain ⟨E, hE⟩ : ∃ E, ofBytes (eb n) = E := ⟨_, rfl⟩
      rw [hE] at c1 cE
      have hE1 : E.toList ≠ [] := by rw [ByteArray.toList_eq, ← hE, ofBytes_list]; exact hne
      have hE2 : E.toList.isEmpty = false := by simpa using hE1
      have hE3 : (E.toList == []) = false := by simpa using hE1
      clear hne hE c2 hN hs
      go_enter Tryd.func7, Tryd.ntmps7
      go_wp2
      go_region
      all_goals
        go_wp2_with fail
        rw [← HS1.out]
        refine (c1 _ t0).mono ?_
        rintro e w1 ⟨rfl, b1⟩
        have t1 := TabJ_below t0 b1
        go_wp2_with fail
        refine (cE _).mono ?_
        rintro e w2 ⟨rfl, b2⟩
        have t2 := TabJ_below t1 b2
        (go_wp2_with fail); (refine (js_alive _ t2).mono ?_); (rintro e w3 ⟨rfl, b3⟩)
        have z1 := b1.size
        have z2 := b2.size
        have z0 := b0.size
        go_wp2
        go_ret
        exact ⟨by simp, ((b0.trans (b1.mono z0)).trans (b2.mono (by omega))).trans (b3.mono (by omega))⟩
  · 
    have hDd := jstr_data true n q1 q2 q3 q4 hn0 hn1 HE.out
    obtain ⟨D, hD⟩ : ∃ D, strOfNums [dgZ true q1, dgZ true q2, dgZ true q3, dgZ true q4] = D := ⟨_, rfl⟩
    rw [hD] at hDd
    have hDz : D.size = 4 := by
      have : D.data.toList.length = D.size := by simp
      rw [← this, hDd]; rfl
    have hcv := conv4 w (dgZ true q1) (dgZ true q2) (dgZ true q3) (dgZ true q4)
    rw [hD] at hcv
    have hcd : (convert 38 9 (.slice (some ⟨w.heap.size, 0, none⟩) 4 4)).run Tryd.prog (w.alloc (.cells #[.int .u8 (dgZ true q1), .int .u8 (dgZ true q2), .int .u8 (dgZ true q3), .int .u8 (dgZ true q4)] 5)).drew = .ok (.string (strOfNums [dgZ true q1, dgZ true q2, dgZ true q3, dgZ true q4])) (w.alloc (.cells #[.int .u8 (dgZ true q1), .int .u8 (dgZ true q2), .int .u8 (dgZ true q3), .int .u8 (dgZ true q4)] 5)).drew :=
      run_convert_bytes_arg _ 38 5 Tryd.underlying38 Tryd.underlying5 _ 0 4 4 [dgZ true q1, dgZ true q2, dgZ true q3, dgZ true q4] rfl (fun i hi => by
        match i, hi with
        | 0, _ => simp
        | 1, _ => simp
        | 2, _ => simp
        | 3, _ => simp) 9 Tryd.underlying9
    rw [hD] at hcd
    obtain ⟨S1, hS1⟩ : ∃ S1, S1 = (⟨#[34, 92, 117]⟩ : ByteArray) ++ D ++ ⟨#[34]⟩ := ⟨_, rfl⟩
    have hS1d : S1.data.toList = 34 :: 92 :: 117 :: (numJ true N ++ [34]) := by
      rw [hS1, ByteArray.data_append, ByteArray.data_append, Array.toList_append, Array.toList_append, hDd, hN, Int.toNat_natCast]; rfl
    have hS1z : S1.size = 8 := by
      have : S1.data.toList.length = S1.size := by simp
      rw [← this, hS1d]; rfl
    obtain ⟨S2, hS2⟩ : ∃ S2, S2 = (⟨#[34, 92, 117]⟩ : ByteArray) ++ D ++ ⟨#[92, 117, 100, 99, 48, 49, 34]⟩ := ⟨_, rfl⟩
    have hS2d : S2.data.toList = 34 :: 92 :: 117 :: (numJ true N ++ [92, 117, 100, 99, 48, 49, 34]) := by
      rw [hS2, ByteArray.data_append, ByteArray.data_append, Array.toList_append, Array.toList_append, hDd, hN, Int.toNat_natCast]; rfl
    have hS2z : S2.size = 14 := by
      have : S2.data.toList.length = S2.size := by simp
      rw [← this, hS2d]; rfl
    have hP7 : ∀ wx, _ := fun wx => slice_to S1 7 (by omega) (by omega) wx
    rw [show S1.extract 0 (7 : Int).toNat = (⟨#[34, 92, 117]⟩ : ByteArray) ++ D by
      apply estr_ext
      rw [eext, ofBytes_list, hS1d, ByteArray.data_append, Array.toList_append, hDd, hN, Int.toNat_natCast]; rfl] at hP7
    have c1 : ∀ wx, TabJ wx → _ := fun wx => js_Parse S1 0 wx (by omega)
    have c2 : ∀ wx, TabJ wx → _ := fun wx => js_Parse S2 0 wx (by omega)
    have cE : ∀ wx, _ := fun wx => ref_Encode n wx
    rw [eb_str] at cE
    rw [hS1d] at c1
    rw [hS2d] at c2
    clear hD hDd hS1d hS2d hcv
    have t0 : TabJ ((w.alloc (.cells #[.int .u8 (dgZ true q1), .int .u8 (dgZ true q2), .int .u8 (dgZ true q3), .int .u8 (dgZ true q4)] 5)).drew) := TabJ_below hT (((Below.refl _ _).alloc (Nat.le_refl _) _).drew)
    have b0 : Below w.heap.size w ((w.alloc (.cells #[.int .u8 (dgZ true q1), .int .u8 (dgZ true q2), .int .u8 (dgZ true q3), .int .u8 (dgZ true q4)] 5)).drew) := ((Below.refl _ _).alloc (Nat.le_refl _) _).drew
    generalize dgZ true q1 = d1 at *
    generalize dgZ true q2 = d2 at *
    generalize dgZ true q3 = d3 at *
    generalize dgZ true q4 = d4 at *
    rw [show dgS true = ⟨#[48, 49, 50, 51, 52, 53, 54, 55, 56, 57, 65, 66, 67, 68, 69, 70]⟩ from rfl] at x1 x2 x3 x4
    have HS1 := Lib.hid hS1
    have HS2 := Lib.hid hS2
    clear hS1 hS2
    by_cases hs : 55296 ≤ n ∧ n ≤ 57343
    · obtain ⟨hs0, hs1⟩ := hs
      rw [parP_sur true N (by omega) (by omega)] at c1
      rw [parP_pair true N (by omega) (by omega)] at c2
      rw [show eb n = [] by unfold eb encZ; rw [if_pos (by omega)]; rfl] at cE
      rw [show ofBytes [] = (⟨#[]⟩ : ByteArray) from rfl] at c1 cE
      by_cases hh : N ≤ 56319
      · rw [if_pos hh, ← hN] at c2
        have cF : ∀ wx, _ := fun wx => ref_Encode (65537 + (n - 55296) * 1024) wx
        rw [eb_str] at cF
        simp only at c2
        generalize ofBytes (eb (65537 + (n - 55296) * 1024)) = F at *
        have hn56 : n < 56320 := by omega
        have HN := Lib.hid hN
        clear hh hN
        go_enter Tryd.func7, Tryd.ntmps7
        go_wp2
        go_region
        go_wp2_with fail
        rw [← HS1.out]
        refine (c1 _ t0).mono ?_
        rintro e w1 ⟨rfl, b1⟩
        have t1 := TabJ_below t0 b1
        go_wp2_with fail
        refine (cE _).mono ?_
        rintro e w2 ⟨rfl, b2⟩
        have t2 := TabJ_below t1 b2
        go_wp2_with fail
        rw [← HS2.out]
        refine (c2 _ t2).mono ?_
        rintro e w3 ⟨rfl, b3⟩
        have t3 := TabJ_below t2 b3
        (go_wp2_with fail); (refine (js_alive _ t3).mono ?_); (rintro e w4 ⟨rfl, b4⟩)
        go_wp2_with fail
        refine (cF _).mono ?_
        rintro e w5 ⟨rfl, b5⟩
        have z1 := b1.size
        have z2 := b2.size
        have z3 := b3.size
        have z4 := b4.size
        have z0 := b0.size
        go_wp2
        go_ret
        exact ⟨by simp, ((((b0.trans (b1.mono z0)).trans (b2.mono (by omega))).trans (b3.mono (by omega))).trans (b4.mono (by omega))).trans (b5.mono (by omega))⟩
      · rw [if_neg hh, show ofBytes [] = (⟨#[]⟩ : ByteArray) from rfl] at c2
        have hn56 : 56320 ≤ n := by omega
        have HN := Lib.hid hN
        clear hh hN
        go_enter Tryd.func7, Tryd.ntmps7
        go_wp2
        go_region
        go_wp2_with fail
        rw [← HS1.out]
        refine (c1 _ t0).mono ?_
        rintro e w1 ⟨rfl, b1⟩
        have t1 := TabJ_below t0 b1
        go_wp2_with fail
        refine (cE _).mono ?_
        rintro e w2 ⟨rfl, b2⟩
        have t2 := TabJ_below t1 b2
        go_wp2_with fail
        rw [← HS2.out]
        refine (c2 _ t2).mono ?_
        rintro e w3 ⟨rfl, b3⟩
        have t3 := TabJ_below t2 b3
        (go_wp2_with fail); (refine (js_alive _ t3).mono ?_); (rintro e w4 ⟨rfl, b4⟩)
        have z1 := b1.size
        have z2 := b2.size
        have z3 := b3.size
        have z0 := b0.size
        go_wp2
        go_ret
        exact ⟨by simp, (((b0.trans (b1.mono z0)).trans (b2.mono (by omega))).trans (b3.mono (by omega))).trans (b4.mono (by omega))⟩
    · rw [parP_num true N (by omega) (by omega), ← hN] at c1
      have hne := eb_scalar n hn0 (by omega) hs
      simp only at c1
      obtain ⟨E, hE⟩ : ∃ E, ofBytes (eb n) = E := ⟨_, rfl⟩
      rw [hE] at c1 cE
      have hE1 : E.toList ≠ [] := by rw [ByteArray.toList_eq, ← hE, ofBytes_list]; exact hne
      have hE2 : E.toList.isEmpty = false := by simpa using hE1
      have hE3 : (E.toList == []) = false := by simpa using hE1
      clear hne hE c2 hN hs
      go_enter Tryd.func7, Tryd.ntmps7
      go_wp2
      go_region
      all_goals
        go_wp2_with fail
        rw [← HS1.out]
        refine (c1 _ t0).mono ?_
        rintro e w1 ⟨rfl, b1⟩
        have t1 := TabJ_below t0 b1
        go_wp2_with fail
        refine (cE _).mono ?_
        rintro e w2 ⟨rfl, b2⟩
        have t2 := TabJ_below t1 b2
        (go_wp2_with fail); (refine (js_alive _ t2).mono ?_); (rintro e w3 ⟨rfl, b3⟩)
        have z1 := b1.size
        have z2 := b2.size
        have z0 := b0.size
        go_wp2
        go_ret
        exact ⟨by simp, ((b0.trans (b1.mono z0)).trans (b2.mono (by omega))).trans (b3.mono (by omega))⟩
end Go.Proofs.YtdkinamblobjpaaDoor
