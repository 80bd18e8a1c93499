/- The reference of layer 10: letter, Valid, hex, unit, sequence: what each returns. -/
import Derived.Test.YtdkinamblobjpaaDoorJsB
import Derived.Test.YtdkinamblobjpaaDoorTextU
namespace Go.Proofs.YtdkinamblobjpaaDoor
open Go.RowKit Go.Lib

theorem jix (s : ByteArray) (k : IntKind) (i : Int) (n : Nat) (hn : i = (n : Int)) (h1 : n < s.size) (w : World) : (Instr.index 9 (.string s) (.int k i)).run Tryd.prog w = .ok (.int .u8 ((s.data.toList.getD n 0).toNat : Int)) w := by
  subst hn
  have hl : n < s.data.toList.length := by simpa using h1
  have hg : s.data.toList.getD n 0 = s[n]'h1 := by
    rw [List.getD_eq_getElem?_getD, List.getElem?_eq_getElem hl]
    simp [ByteArray.getElem_eq_getElem_data]
  rw [run_index_string (P := Tryd.prog) (w := w) 9 s k (n : Int) Tryd.underlying9, hg]
  simp [h1]
theorem j_getD (l : List UInt8) (k j : Nat) : (l.drop k).getD j 0 = l.getD (k + j) 0 := by
  rw [List.getD_eq_getElem?_getD, List.getD_eq_getElem?_getD, List.getElem?_drop]

theorem u8_at (x n : UInt8) : x = n ↔ (x.toNat : Int) = (n.toNat : Int) := ⟨fun h => by rw [h], fun h => UInt8.toNat_inj.1 (by omega)⟩

/-! ### letter -/
def letZ (c : Int) : Int := if c = 34 ∨ c = 92 then c else if c = 8 then 98 else if c = 9 then 116 else if c = 10 then 110 else if c = 12 then 102 else if c = 13 then 114 else 0
theorem letZ_eq (c : Nat) : ((letJ c : Nat) : Int) = letZ (c : Int) := by
  unfold letJ letZ
  repeat' split
  all_goals omega
theorem jretI {k : IntKind} {a b : Int} (h : a = b) : Ending.returned (.int k a) = .returned (.int k b) := by rw [h]
set_option maxRecDepth 100000 in
set_option maxHeartbeats 4000000 in
theorem jref_letter (c : Int) (w : World) :
    Calls Tryd.prog 18 #[.int .u8 c] w fun e w' => e = .returned (.int .u8 (letZ c)) ∧ w = w' := by
  rcases (by omega : c = 34 ∨ c = 92 ∨ c = 8 ∨ c = 9 ∨ c = 10 ∨ c = 12 ∨ c = 13 ∨ (c ≠ 34 ∧ c ≠ 92 ∧ c ≠ 8 ∧ c ≠ 9 ∧ c ≠ 10 ∧ c ≠ 12 ∧ c ≠ 13)) with rfl | rfl | rfl | rfl | rfl | rfl | rfl | ⟨h1, h2, h3, h4, h5, h6, h7⟩
  all_goals
    go_enter Tryd.func18, Tryd.ntmps18
    go_wp2
    go_ret
  all_goals first | exact ⟨rfl, rfl⟩ | exact ⟨jretI (by unfold letZ; rw [if_neg (by omega), if_neg h3, if_neg h4, if_neg h5, if_neg h6, if_neg h7]), rfl⟩

/-! ### Valid -/
set_option maxRecDepth 100000 in
set_option maxHeartbeats 8000000 in
theorem jref_Valid (s : ByteArray) (w : World) (hs : s.size ≤ 1000000) :
    Calls Tryd.prog 14 #[.string s] w fun e w' => e = .returned (.bool (vaL s.data.toList)) ∧ Below w.heap.size w w' := by
  have HSL := Lib.hid (show s.data.toList.length = s.size by simp)
  go_enter Tryd.func14, Tryd.ntmps14
  go_wp2
  go_loopw [3] (fun q wr => ∃ k : Nat, k ≤ s.size ∧ q = .int .i64 k ∧ vaL s.data.toList = vaL (s.data.toList.drop k) ∧ Below w.heap.size w wr) (fun q _ => s.size - (RowKit.intOf q).toNat)
  case atStart => exact ⟨0, by omega, rfl, rfl, Below.refl _ _⟩
  case round =>
    obtain ⟨k, hk, rfl, hrel, hbel⟩ := hrel
    have hz := hbel.size
    by_cases hlt : k < s.size
    · have hdl : (s.data.toList.drop k).length = s.size - k := by rw [List.length_drop, HSL.out]
      have hne : s.data.toList.drop k ≠ [] := fun e => by rw [e] at hdl; simp at hdl; omega
      have cD : ∀ wx, _ := fun wx => ref_Decode s (k : Int) wx (by unfold maxLen; omega)
      rw [decI_at s k hlt, decP_drop s k (by omega)] at cD
      rw [vaL_eq _ hne, List.drop_drop] at hrel
      have hok := decL_ok _ hne
      rw [hdl] at hok
      clear hne hdl
      generalize decL (s.data.toList.drop k) = d at *
      obtain ⟨r, n⟩ := d
      simp only at cD hrel hok
      obtain ⟨hn1, hn2, _, _⟩ := hok
      rcases Nat.eq_zero_or_pos n with rfl | h0
      · rw [if_pos rfl] at hrel
        have HR := Lib.hid hrel
        clear hrel
        go_wp2_with fail
        refine (cD _).mono ?_
        rintro e w1 ⟨rfl, b1⟩
        go_wp2
        go_ret
        exact ⟨retb HR.out.symm, hbel.trans (b1.mono hz)⟩
      · rw [if_neg (by omega)] at hrel
        have HR := Lib.hid hrel
        have hnz : (n : Int) ≠ 0 := by omega
        clear hrel
        go_wp2_with fail
        refine (cD _).mono ?_
        rintro e w1 ⟨rfl, b1⟩
        go_wp2
        go_roundw
        case rel => exact ⟨k + n, by omega, by go_num, HR.out, hbel.trans (b1.mono hz)⟩
        case measure => simp [RowKit.intOf]; omega
    · obtain rfl : k = s.size := by omega
      rw [List.drop_eq_nil_of_le (by have := HSL.out; omega), vaL_nil] at hrel
      have HR := Lib.hid hrel
      clear hrel
      go_wp2
      go_ret
      exact ⟨retb HR.out.symm, hbel⟩

/-! ### hex -/
def hexB : Nat → Int | 0 => 1 | 1 => 16 | 2 => 256 | 3 => 4096 | _ => 65536
theorem hexB_step : ∀ (k : Nat) (m v : Int), k < 4 → m < hexB k → v ≤ 15 → m * 16 + v < hexB (k + 1)
  | 0, m, v, _, h, hv => by simp only [hexB] at *; omega
  | 1, m, v, _, h, hv => by simp only [hexB] at *; omega
  | 2, m, v, _, h, hv => by simp only [hexB] at *; omega
  | 3, m, v, _, h, hv => by simp only [hexB] at *; omega
  | k + 4, _, _, h, _, _ => by omega
theorem hexB_le : ∀ k : Nat, hexB k ≤ 65536
  | 0 => by decide
  | 1 => by decide
  | 2 => by decide
  | 3 => by decide
  | k + 4 => by simp [hexB]
set_option maxRecDepth 100000 in
set_option maxHeartbeats 8000000 in
theorem jref_hex (s : ByteArray) (i : Nat) (w : World) (hs : s.size ≤ 1000000) (hi : i + 4 ≤ s.size) :
    Calls Tryd.prog 37 #[.string s, .int .i64 (i : Int)] w fun e w' => e = .returned (.int .i64 (hexGo ((s.data.toList.drop i).take 4) 0)) ∧ w = w' := by
  have HSL := Lib.hid (show s.data.toList.length = s.size by simp)
  go_enter Tryd.func37, Tryd.ntmps37
  go_wp2
  go_loop [5, 6] (fun n q => ∃ (k : Nat) (m : Int), k ≤ 4 ∧ q = .int .i64 k ∧ n = .int .i64 m ∧ 0 ≤ m ∧ m < hexB k ∧ hexGo ((s.data.toList.drop i).take 4) 0 = hexGo ((s.data.toList.drop (i + k)).take (4 - k)) m) (fun _ q => 4 - (RowKit.intOf q).toNat)
  case atStart => exact ⟨0, 0, by omega, rfl, rfl, by omega, by decide, rfl⟩
  case round =>
    obtain ⟨k, m, hk, rfl, rfl, hm0, hm1, hrel⟩ := hrel
    by_cases hlt : k < 4
    · have hkl : i + k < s.data.toList.length := by have := HSL.out; omega
      have hg : s.data.toList.getD (i + k) 0 = s.data.toList[i + k] := by rw [List.getD_eq_getElem?_getD, List.getElem?_eq_getElem hkl]; rfl
      have hix := jix s .i64 ((i : Int) + (k : Int)) (i + k) (by omega) (by omega)
      rw [List.drop_eq_getElem_cons hkl, ← hg, show 4 - k = (3 - k) + 1 by omega, List.take_succ_cons, hexGo, Nat.add_assoc] at hrel
      rw [show 3 - k = 4 - (k + 1) by omega] at hrel
      have hb := hexB_le k
      generalize s.data.toList.getD (i + k) 0 = x at *
      have hst := fun v : Int => hexB_step k m v hlt hm1
      have hV := hexV.eq_1 x
      obtain ⟨z, hzx⟩ : ∃ z : Int, (x.toNat : Int) = z := ⟨_, rfl⟩
      have hx8 := x.toNat_lt
      have hz0 : 0 ≤ z := by omega
      have hz8 : z ≤ 255 := by omega
      rw [hzx] at hix hV
      have hmb : m ≤ 65535 := by omega
      clear hg hkl hm1
      by_cases c1 : 48 ≤ z ∧ z ≤ 57
      · obtain ⟨c1a, c1b⟩ := c1
        rw [if_pos (by omega)] at hV
        rw [if_neg (by omega), hV] at hrel
        have HR := Lib.hid hrel
        clear hrel hV hzx
        go_wp2
        go_round
        case rel => exact ⟨k + 1, m * 16 + (z - 48), by omega, by go_num, by go_num, by omega, hst _ (by omega), HR.out⟩
        case measure => simp [RowKit.intOf]; omega
      · rw [if_neg (by omega)] at hV
        by_cases c2 : 97 ≤ z ∧ z ≤ 102
        · obtain ⟨c2a, c2b⟩ := c2
          have c1n : ¬ z ≤ 57 := by omega
          rw [if_pos (by omega)] at hV
          rw [if_neg (by omega), hV] at hrel
          have HR := Lib.hid hrel
          clear hrel hV hzx c1
          go_wp2
          go_round
          case rel => exact ⟨k + 1, m * 16 + (z - 87), by omega, by go_num, by go_num, by omega, hst _ (by omega), HR.out⟩
          case measure => simp [RowKit.intOf]; omega
        · rw [if_neg (by omega)] at hV
          by_cases c3 : 65 ≤ z ∧ z ≤ 70
          · obtain ⟨c3a, c3b⟩ := c3
            have c1n : ¬ z ≤ 57 := by omega
            have c2n : ¬ 97 ≤ z := by omega
            rw [if_pos (by omega)] at hV
            rw [if_neg (by omega), hV] at hrel
            have HR := Lib.hid hrel
            clear hrel hV hzx c1 c2
            go_wp2
            go_round
            case rel => exact ⟨k + 1, m * 16 + (z - 55), by omega, by go_num, by go_num, by omega, hst _ (by omega), HR.out⟩
            case measure => simp [RowKit.intOf]; omega
          · rw [if_neg (by omega)] at hV
            rw [hV, if_pos rfl] at hrel
            have HR := Lib.hid hrel
            have C1 := Lib.hid c1
            have C2 := Lib.hid c2
            have C3 := Lib.hid c3
            clear hrel hV hzx c1 c2 c3
            rcases (by have := C1.out; have := C2.out; have := C3.out; omega : z < 48 ∨ (57 < z ∧ z < 65) ∨ (70 < z ∧ z < 97) ∨ 102 < z) with d | ⟨d, d'⟩ | ⟨d, d'⟩ | d
            all_goals
              go_wp2
              go_ret
              exact ⟨jretI HR.out.symm, rfl⟩
    · obtain rfl : k = 4 := by omega
      rw [Nat.sub_self, List.take_zero, hexGo] at hrel
      have HR := Lib.hid hrel
      clear hrel
      go_wp2
      go_ret
      exact ⟨jretI HR.out.symm, rfl⟩

/-! ### unit -/
set_option maxRecDepth 100000 in
set_option maxHeartbeats 8000000 in
theorem jref_unit (s : ByteArray) (i : Nat) (w : World) (hs : s.size ≤ 1000000) (hi : i ≤ s.size) :
    Calls Tryd.prog 31 #[.string s, .int .i64 (i : Int)] w fun e w' => e = .returned (.int .i64 (unitL (s.data.toList.drop i))) ∧ w = w' := by
  have hdl : (s.data.toList.drop i).length = s.size - i := by rw [List.length_drop]; simp
  have hu := unitL.eq_1 (s.data.toList.drop i)
  rw [hdl, j_getD, j_getD, Nat.add_zero, List.drop_drop] at hu
  generalize unitL (s.data.toList.drop i) = U at *
  by_cases h6 : i + 6 ≤ s.size
  · have hix0 := jix s .i64 (i : Int) i rfl (by omega)
    have hix1 := jix s .i64 ((i : Int) + 1) (i + 1) (by omega) (by omega)
    have cH : ∀ wx, _ := fun wx => jref_hex s (i + 2) wx hs (by omega)
    rw [show ((i + 2 : Nat) : Int) = (i : Int) + 2 by omega] at cH
    clear hdl
    generalize s.data.toList.getD i 0 = x at *
    generalize s.data.toList.getD (i + 1) 0 = y at *
    generalize hexGo ((s.data.toList.drop (i + 2)).take 4) 0 = H at *
    have ex : x = 92 ↔ (x.toNat : Int) = 92 := u8_at x 92
    have ey : y = 117 ↔ (y.toNat : Int) = 117 := u8_at y 117
    generalize (x.toNat : Int) = zx at *
    generalize (y.toNat : Int) = zy at *
    have hn6 : ¬ ((s.size : Int) - (i : Int) < 6) := by omega
    by_cases hx : zx = 92
    · by_cases hy : zy = 117
      · rw [if_pos ⟨by omega, ex.2 hx, ey.2 hy⟩] at hu
        clear ex ey
        subst hx hy
        have HU := Lib.hid hu
        clear hu
        go_enter Tryd.func31, Tryd.ntmps31
        (go_wp2_with fail); (refine (cH _).mono ?_); (rintro e w' ⟨rfl, rfl⟩)
        go_wp2
        go_ret
        exact ⟨jretI HU.out.symm, rfl⟩
      · rw [if_neg (fun h => hy (ey.1 h.2.2))] at hu
        clear ex ey
        subst hx
        have HU := Lib.hid hu
        clear hu
        go_enter Tryd.func31, Tryd.ntmps31
        go_wp2
        go_ret
        exact ⟨jretI HU.out.symm, rfl⟩
    · rw [if_neg (fun h => hx (ex.1 h.2.1))] at hu
      clear ex ey
      have HU := Lib.hid hu
      clear hu
      go_enter Tryd.func31, Tryd.ntmps31
      go_wp2
      go_ret
      exact ⟨jretI HU.out.symm, rfl⟩
  · rw [if_neg (by omega)] at hu
    have HU := Lib.hid hu
    have hn6 : (s.size : Int) - (i : Int) < 6 := by omega
    have hn7 : 0 ≤ (s.size : Int) - (i : Int) := by omega
    clear hu
    go_enter Tryd.func31, Tryd.ntmps31
    go_wp2
    go_ret
    exact ⟨jretI HU.out.symm, rfl⟩

/-! ### sequence -/
theorem jretS {a : Int} {b : Nat} {p : Int × Nat} (h : p = (a, b)) : Ending.returned (.tuple #[.int .i64 a, .int .i64 (b : Int)]) = .returned (.tuple #[.int .i64 p.1, .int .i64 (p.2 : Int)]) := by subst h; rfl
set_option maxRecDepth 100000 in
set_option maxHeartbeats 8000000 in
theorem jref_sequence (s : ByteArray) (i : Nat) (w : World) (hs : s.size ≤ 1000000) (hi : i + 2 ≤ s.size) :
    Calls Tryd.prog 24 #[.string s, .int .i64 (i : Int)] w fun e w' => e = .returned (.tuple #[.int .i64 (seqL (s.data.toList.drop i)).1, .int .i64 ((seqL (s.data.toList.drop i)).2 : Nat)]) ∧ w = w' := by
  have hix1 := jix s .i64 ((i : Int) + 1) (i + 1) (by omega) (by omega)
  have hu := seqL.eq_1 (s.data.toList.drop i)
  rw [j_getD, List.drop_drop] at hu
  have hU := unitL_bd (s.data.toList.drop i)
  have hV := unitL_bd (s.data.toList.drop (i + 6))
  have cU : ∀ wx, _ := fun wx => jref_unit s i wx hs (by omega)
  have hM := meanJ.eq_1 (s.data.toList.getD (i + 1) 0)
  have hl6 : unitL (s.data.toList.drop i) ≠ -1 → i + 6 ≤ s.size := fun h => by
    have := unitL_len _ h
    rw [List.length_drop] at this
    have h2 : s.data.toList.length = s.size := by simp
    omega
  have cV : i + 6 ≤ s.size → ∀ wx, _ := fun h wx => jref_unit s (i + 6) wx hs h
  rw [show ((i + 6 : Nat) : Int) = (i : Int) + 6 by omega] at cV
  generalize unitL (s.data.toList.drop i) = U at *
  generalize unitL (s.data.toList.drop (i + 6)) = V at *
  generalize meanJ (s.data.toList.getD (i + 1) 0) = M at *
  generalize s.data.toList.getD (i + 1) 0 = x at *
  generalize seqL (s.data.toList.drop i) = Q at *
  obtain ⟨z, hzx⟩ : ∃ z : Int, (x.toNat : Int) = z := ⟨_, rfl⟩
  rw [hzx] at hix1 hM
  have two : ∀ a : Int, a ≠ -1 → M = a → Q = (a, 2) := fun a ha h => by rw [hu, h, if_pos ha]
  rcases (by omega : z = 34 ∨ z = 92 ∨ z = 47 ∨ z = 98 ∨ z = 102 ∨ z = 110 ∨ z = 114 ∨ z = 116 ∨ (z ≠ 34 ∧ z ≠ 92 ∧ z ≠ 47 ∧ z ≠ 98 ∧ z ≠ 102 ∧ z ≠ 110 ∧ z ≠ 114 ∧ z ≠ 116)) with rfl | rfl | rfl | rfl | rfl | rfl | rfl | rfl | ⟨h1, h2, h3, h4, h5, h6, h7, h8⟩
  · have HQ := Lib.hid (two 34 (by omega) (by rw [hM, if_pos (by omega)]))
    
    clear hu hM two cU cV hl6 hzx
    go_enter Tryd.func24, Tryd.ntmps24
    go_wp2
    exact bodyPost_ret (v := .tuple #[.int .i64 34, .int .i64 2]) (by simp [results, Tryd.results24, go_sem]) rfl ⟨jretS HQ.out, rfl⟩
  · have HQ := Lib.hid (two 92 (by omega) (by rw [hM, if_pos (by omega)]))
    
    clear hu hM two cU cV hl6 hzx
    go_enter Tryd.func24, Tryd.ntmps24
    go_wp2
    exact bodyPost_ret (v := .tuple #[.int .i64 92, .int .i64 2]) (by simp [results, Tryd.results24, go_sem]) rfl ⟨jretS HQ.out, rfl⟩
  · have HQ := Lib.hid (two 47 (by omega) (by rw [hM, if_pos (by omega)]))
    
    clear hu hM two cU cV hl6 hzx
    go_enter Tryd.func24, Tryd.ntmps24
    go_wp2
    exact bodyPost_ret (v := .tuple #[.int .i64 47, .int .i64 2]) (by simp [results, Tryd.results24, go_sem]) rfl ⟨jretS HQ.out, rfl⟩
  · have HQ := Lib.hid (two 8 (by omega) (by rw [hM, if_neg (by omega), if_pos (by omega)]))
    
    clear hu hM two cU cV hl6 hzx
    go_enter Tryd.func24, Tryd.ntmps24
    go_wp2
    exact bodyPost_ret (v := .tuple #[.int .i64 8, .int .i64 2]) (by simp [results, Tryd.results24, go_sem]) rfl ⟨jretS HQ.out, rfl⟩
  · have HQ := Lib.hid (two 12 (by omega) (by rw [hM, if_neg (by omega), if_neg (by omega), if_pos (by omega)]))
    
    clear hu hM two cU cV hl6 hzx
    go_enter Tryd.func24, Tryd.ntmps24
    go_wp2
    exact bodyPost_ret (v := .tuple #[.int .i64 12, .int .i64 2]) (by simp [results, Tryd.results24, go_sem]) rfl ⟨jretS HQ.out, rfl⟩
  · have HQ := Lib.hid (two 10 (by omega) (by rw [hM, if_neg (by omega), if_neg (by omega), if_neg (by omega), if_pos (by omega)]))
    
    clear hu hM two cU cV hl6 hzx
    go_enter Tryd.func24, Tryd.ntmps24
    go_wp2
    exact bodyPost_ret (v := .tuple #[.int .i64 10, .int .i64 2]) (by simp [results, Tryd.results24, go_sem]) rfl ⟨jretS HQ.out, rfl⟩
  · have HQ := Lib.hid (two 13 (by omega) (by rw [hM, if_neg (by omega), if_neg (by omega), if_neg (by omega), if_neg (by omega), if_pos (by omega)]))
    
    clear hu hM two cU cV hl6 hzx
    go_enter Tryd.func24, Tryd.ntmps24
    go_wp2
    exact bodyPost_ret (v := .tuple #[.int .i64 13, .int .i64 2]) (by simp [results, Tryd.results24, go_sem]) rfl ⟨jretS HQ.out, rfl⟩
  · have HQ := Lib.hid (two 9 (by omega) (by rw [hM, if_neg (by omega), if_neg (by omega), if_neg (by omega), if_neg (by omega), if_neg (by omega), if_pos (by omega)]))
    
    clear hu hM two cU cV hl6 hzx
    go_enter Tryd.func24, Tryd.ntmps24
    go_wp2
    exact bodyPost_ret (v := .tuple #[.int .i64 9, .int .i64 2]) (by simp [results, Tryd.results24, go_sem]) rfl ⟨jretS HQ.out, rfl⟩
  · rw [if_neg (by omega), if_neg (by omega), if_neg (by omega), if_neg (by omega), if_neg (by omega), if_neg (by omega)] at hM
    rw [hM, if_neg (by omega)] at hu
    clear hM two hzx
    obtain ⟨hU0, hU1⟩ := hU
    obtain ⟨hV0, hV1⟩ := hV
    by_cases c1 : 55296 ≤ U ∧ U ≤ 56319
    · obtain ⟨c1a, c1b⟩ := c1
      rw [if_pos ⟨c1a, c1b⟩] at hu
      have cV := cV (hl6 (by omega))
      clear hl6
      by_cases c2 : 56320 ≤ V ∧ V ≤ 57343
      · obtain ⟨c2a, c2b⟩ := c2
        rw [if_pos ⟨c2a, c2b⟩] at hu
        have HQ := Lib.hid hu
        clear hu
        go_enter Tryd.func24, Tryd.ntmps24
        (go_wp2_with fail); (refine (cU _).mono ?_); (rintro e w' ⟨rfl, rfl⟩)
        (go_wp2_with fail); (refine (cV _).mono ?_); (rintro e w' ⟨rfl, rfl⟩)
        go_wp2
        exact bodyPost_ret (v := .tuple #[.int .i64 (65536 + (U - 55296) * 1024 + (V - 56320)), .int .i64 12]) (by simp [results, Tryd.results24, go_sem]; omega) rfl ⟨jretS HQ.out, rfl⟩
      · rw [if_neg c2] at hu
        have HQ := Lib.hid hu
        clear hu
        rcases (by omega : V < 56320 ∨ 57343 < V) with d | d
        all_goals
          clear c2
          go_enter Tryd.func24, Tryd.ntmps24
          (go_wp2_with fail); (refine (cU _).mono ?_); (rintro e w' ⟨rfl, rfl⟩)
          (go_wp2_with fail); (refine (cV _).mono ?_); (rintro e w' ⟨rfl, rfl⟩)
          go_wp2
          exact bodyPost_ret (v := .tuple #[.int .i64 0, .int .i64 0]) (by simp [results, Tryd.results24, go_sem]) rfl ⟨jretS HQ.out, rfl⟩
    · rw [if_neg c1] at hu
      clear cV hl6
      by_cases c2 : U < 0 ∨ (56320 ≤ U ∧ U ≤ 57343)
      · rw [if_pos c2] at hu
        have HQ := Lib.hid hu
        clear hu c1
        rcases c2 with d | ⟨d, d'⟩
        all_goals
          go_enter Tryd.func24, Tryd.ntmps24
          (go_wp2_with fail); (refine (cU _).mono ?_); (rintro e w' ⟨rfl, rfl⟩)
          go_wp2
          exact bodyPost_ret (v := .tuple #[.int .i64 0, .int .i64 0]) (by simp [results, Tryd.results24, go_sem]) rfl ⟨jretS HQ.out, rfl⟩
      · rw [if_neg c2] at hu
        have HQ := Lib.hid hu
        clear hu
        have d0 : ¬ U < 0 := by omega
        rcases (by omega : U < 55296 ∨ 57343 < U) with d | d
        all_goals
          clear c1 c2
          go_enter Tryd.func24, Tryd.ntmps24
          (go_wp2_with fail); (refine (cU _).mono ?_); (rintro e w' ⟨rfl, rfl⟩)
          go_wp2
          exact bodyPost_ret (v := .tuple #[.int .i64 U, .int .i64 6]) (by simp [results, Tryd.results24, go_sem]) rfl ⟨jretS HQ.out, rfl⟩
end Go.Proofs.YtdkinamblobjpaaDoor
