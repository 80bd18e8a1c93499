/- Packed from the texts JsC JsD JsE. -/
import Derived.Test.YtkkiklaoljdhhaaGreatDoorYkB
import Derived.Test.YtkkiklaoljdhhaaGreatDoorYkC
import Derived.Test.YtkkiklaoljdhhaaGreatDoorYkD
import Derived.Deep.AppendLies
import Derived.Deep.RegionLaw
section
namespace Go.Proofs.YtkkiklaoljdhhaaGreatDoor
open Go.RowKit Go.Lib
theorem jix (s : ByteArray) (k : IntKind) (i : Int) (n : Nat) (hn : i = (n : Int)) (h1 : n < s.size) (w : World) : (Instr.index 9 (.string s) (.int k i)).run Tryz.prog w = .ok (.int .u8 ((s.data.toList.getD n 0).toNat : Int)) w := by
  subst hn
  have hl : n < s.data.toList.length := by simpa using h1
  have hg : s.data.toList.getD n 0 = s[n]'h1 := by
    rw [List.getD_eq_getElem?_getD, List.getElem?_eq_getElem hl]
    simp [ByteArray.getElem_eq_getElem_data]
  rw [run_index_string (P := Tryz.prog) (w := w) 9 s k (n : Int) Tryz.underlying9, hg]
  simp [h1]
theorem j_getD (l : List UInt8) (k j : Nat) : (l.drop k).getD j 0 = l.getD (k + j) 0 := by
  rw [List.getD_eq_getElem?_getD, List.getD_eq_getElem?_getD, List.getElem?_drop]
theorem u8_at (x n : UInt8) : x = n ↔ (x.toNat : Int) = (n.toNat : Int) := ⟨fun h => by rw [h], fun h => UInt8.toNat_inj.1 (by omega)⟩
theorem jretI {k : IntKind} {a b : Int} (h : a = b) : Ending.returned (.int k a) = .returned (.int k b) := by rw [h]
def hexB : Nat → Int | 0 => 1 | 1 => 16 | 2 => 256 | 3 => 4096 | _ => 65536
theorem hexB_step : ∀ (k : Nat) (m v : Int), k < 4 → m < hexB k → v ≤ 15 → m * 16 + v < hexB (k + 1)
  | 0, m, v, _, h, hv => by simp only [hexB] at *; omega
  | 1, m, v, _, h, hv => by simp only [hexB] at *; omega
  | 2, m, v, _, h, hv => by simp only [hexB] at *; omega
  | 3, m, v, _, h, hv => by simp only [hexB] at *; omega
  | k + 4, _, _, h, _, _ => by omega
theorem hexB_le : ∀ k : Nat, hexB k ≤ 65536
  | 0 => by decide
  | 1 => by decide
  | 2 => by decide
  | 3 => by decide
  | k + 4 => by simp [hexB]
set_option maxRecDepth 100000 in
set_option maxHeartbeats 8000000 in
theorem jref_hex (s : ByteArray) (i : Nat) (w : World) (hs : s.size ≤ 1000000) (hi : i + 4 ≤ s.size) :
    Calls Tryz.prog 115 #[.string s, .int .i64 (i : Int)] w fun e w' => e = .returned (.int .i64 (hexGo ((s.data.toList.drop i).take 4) 0)) ∧ w = w' := by
  have HSL := Lib.hid (show s.data.toList.length = s.size by simp)
  go_enter Tryz.func115, Tryz.ntmps115
  go_wp2
  go_loop [5, 6] (fun n q => ∃ (k : Nat) (m : Int), k ≤ 4 ∧ q = .int .i64 k ∧ n = .int .i64 m ∧ 0 ≤ m ∧ m < hexB k ∧ hexGo ((s.data.toList.drop i).take 4) 0 = hexGo ((s.data.toList.drop (i + k)).take (4 - k)) m) (fun _ q => 4 - (RowKit.intOf q).toNat)
  case atStart => exact ⟨0, 0, by omega, rfl, rfl, by omega, by decide, rfl⟩
  case round =>
    obtain ⟨k, m, hk, rfl, rfl, hm0, hm1, hrel⟩ := hrel
    by_cases hlt : k < 4
    · have hkl : i + k < s.data.toList.length := by have := HSL.out; omega
      have hg : s.data.toList.getD (i + k) 0 = s.data.toList[i + k] := by rw [List.getD_eq_getElem?_getD, List.getElem?_eq_getElem hkl]; rfl
      have hix := jix s .i64 ((i : Int) + (k : Int)) (i + k) (by omega) (by omega)
      rw [List.drop_eq_getElem_cons hkl, ← hg, show 4 - k = (3 - k) + 1 by omega, List.take_succ_cons, hexGo, Nat.add_assoc] at hrel
      rw [show 3 - k = 4 - (k + 1) by omega] at hrel
      have hb := hexB_le k
      generalize s.data.toList.getD (i + k) 0 = x at *
      have hst := fun v : Int => hexB_step k m v hlt hm1
      have hV := hexV.eq_1 x
      obtain ⟨z, hzx⟩ : ∃ z : Int, (x.toNat : Int) = z := ⟨_, rfl⟩
      have hx8 := x.toNat_lt
      have hz0 : 0 ≤ z := by omega
      have hz8 : z ≤ 255 := by omega
      rw [hzx] at hix hV
      have hmb : m ≤ 65535 := by omega
      clear hg hkl hm1
      by_cases c1 : 48 ≤ z ∧ z ≤ 57
      · obtain ⟨c1a, c1b⟩ := c1
        rw [if_pos (by omega)] at hV
        rw [if_neg (by omega), hV] at hrel
        have HR := Lib.hid hrel
        clear hrel hV hzx
        go_wp2
        go_round
        case rel => exact ⟨k + 1, m * 16 + (z - 48), by omega, by go_num, by go_num, by omega, hst _ (by omega), HR.out⟩
        case measure => simp [RowKit.intOf]; omega
      · rw [if_neg (by omega)] at hV
        by_cases c2 : 97 ≤ z ∧ z ≤ 102
        · obtain ⟨c2a, c2b⟩ := c2
          have c1n : ¬ z ≤ 57 := by omega
          rw [if_pos (by omega)] at hV
          rw [if_neg (by omega), hV] at hrel
          have HR := Lib.hid hrel
          clear hrel hV hzx c1
          go_wp2
          go_round
          case rel => exact ⟨k + 1, m * 16 + (z - 87), by omega, by go_num, by go_num, by omega, hst _ (by omega), HR.out⟩
          case measure => simp [RowKit.intOf]; omega
        · rw [if_neg (by omega)] at hV
          by_cases c3 : 65 ≤ z ∧ z ≤ 70
          · obtain ⟨c3a, c3b⟩ := c3
            have c1n : ¬ z ≤ 57 := by omega
            have c2n : ¬ 97 ≤ z := by omega
            rw [if_pos (by omega)] at hV
            rw [if_neg (by omega), hV] at hrel
            have HR := Lib.hid hrel
            clear hrel hV hzx c1 c2
            go_wp2
            go_round
            case rel => exact ⟨k + 1, m * 16 + (z - 55), by omega, by go_num, by go_num, by omega, hst _ (by omega), HR.out⟩
            case measure => simp [RowKit.intOf]; omega
          · rw [if_neg (by omega)] at hV
            rw [hV, if_pos rfl] at hrel
            have HR := Lib.hid hrel
            have C1 := Lib.hid c1
            have C2 := Lib.hid c2
            have C3 := Lib.hid c3
            clear hrel hV hzx c1 c2 c3
            rcases (by have := C1.out; have := C2.out; have := C3.out; omega : z < 48 ∨ (57 < z ∧ z < 65) ∨ (70 < z ∧ z < 97) ∨ 102 < z) with d | ⟨d, d'⟩ | ⟨d, d'⟩ | d
            all_goals
              go_wp2
              go_ret
              exact ⟨jretI HR.out.symm, rfl⟩
    · obtain rfl : k = 4 := by omega
      rw [Nat.sub_self, List.take_zero, hexGo] at hrel
      have HR := Lib.hid hrel
      clear hrel
      go_wp2
      go_ret
      exact ⟨jretI HR.out.symm, rfl⟩
set_option maxRecDepth 100000 in
set_option maxHeartbeats 8000000 in
theorem jref_unit (s : ByteArray) (i : Nat) (w : World) (hs : s.size ≤ 1000000) (hi : i ≤ s.size) :
    Calls Tryz.prog 96 #[.string s, .int .i64 (i : Int)] w fun e w' => e = .returned (.int .i64 (unitL (s.data.toList.drop i))) ∧ w = w' := by
  have hdl : (s.data.toList.drop i).length = s.size - i := by rw [List.length_drop]; simp
  have hu := unitL.eq_1 (s.data.toList.drop i)
  rw [hdl, j_getD, j_getD, Nat.add_zero, List.drop_drop] at hu
  generalize unitL (s.data.toList.drop i) = U at *
  by_cases h6 : i + 6 ≤ s.size
  · have hix0 := jix s .i64 (i : Int) i rfl (by omega)
    have hix1 := jix s .i64 ((i : Int) + 1) (i + 1) (by omega) (by omega)
    have cH : ∀ wx, _ := fun wx => jref_hex s (i + 2) wx hs (by omega)
    rw [show ((i + 2 : Nat) : Int) = (i : Int) + 2 by omega] at cH
    clear hdl
    generalize s.data.toList.getD i 0 = x at *
    generalize s.data.toList.getD (i + 1) 0 = y at *
    generalize hexGo ((s.data.toList.drop (i + 2)).take 4) 0 = H at *
    have ex : x = 92 ↔ (x.toNat : Int) = 92 := u8_at x 92
    have ey : y = 117 ↔ (y.toNat : Int) = 117 := u8_at y 117
    generalize (x.toNat : Int) = zx at *
    generalize (y.toNat : Int) = zy at *
    have hn6 : ¬ ((s.size : Int) - (i : Int) < 6) := by omega
    by_cases hx : zx = 92
    · by_cases hy : zy = 117
      · rw [if_pos ⟨by omega, ex.2 hx, ey.2 hy⟩] at hu
        clear ex ey
        subst hx hy
        have HU := Lib.hid hu
        clear hu
        go_enter Tryz.func96, Tryz.ntmps96
        (go_wp2_with fail); (refine (cH _).mono ?_); (rintro e w' ⟨rfl, rfl⟩)
        go_wp2
        go_ret
        exact ⟨jretI HU.out.symm, rfl⟩
      · rw [if_neg (fun h => hy (ey.1 h.2.2))] at hu
        clear ex ey
        subst hx
        have HU := Lib.hid hu
        clear hu
        go_enter Tryz.func96, Tryz.ntmps96
        go_wp2
        go_ret
        exact ⟨jretI HU.out.symm, rfl⟩
    · rw [if_neg (fun h => hx (ex.1 h.2.1))] at hu
      clear ex ey
      have HU := Lib.hid hu
      clear hu
      go_enter Tryz.func96, Tryz.ntmps96
      go_wp2
      go_ret
      exact ⟨jretI HU.out.symm, rfl⟩
  · rw [if_neg (by omega)] at hu
    have HU := Lib.hid hu
    have hn6 : (s.size : Int) - (i : Int) < 6 := by omega
    have hn7 : 0 ≤ (s.size : Int) - (i : Int) := by omega
    clear hu
    go_enter Tryz.func96, Tryz.ntmps96
    go_wp2
    go_ret
    exact ⟨jretI HU.out.symm, rfl⟩
theorem jretS {a : Int} {b : Nat} {p : Int × Nat} (h : p = (a, b)) : Ending.returned (.tuple #[.int .i64 a, .int .i64 (b : Int)]) = .returned (.tuple #[.int .i64 p.1, .int .i64 (p.2 : Int)]) := by subst h; rfl
set_option maxRecDepth 100000 in
set_option maxHeartbeats 8000000 in
theorem jref_sequence (s : ByteArray) (i : Nat) (w : World) (hs : s.size ≤ 1000000) (hi : i + 2 ≤ s.size) :
    Calls Tryz.prog 74 #[.string s, .int .i64 (i : Int)] w fun e w' => e = .returned (.tuple #[.int .i64 (seqL (s.data.toList.drop i)).1, .int .i64 ((seqL (s.data.toList.drop i)).2 : Nat)]) ∧ w = w' := by
  have hix1 := jix s .i64 ((i : Int) + 1) (i + 1) (by omega) (by omega)
  have hu := seqL.eq_1 (s.data.toList.drop i)
  rw [j_getD, List.drop_drop] at hu
  have hU := unitL_bd (s.data.toList.drop i)
  have hV := unitL_bd (s.data.toList.drop (i + 6))
  have cU : ∀ wx, _ := fun wx => jref_unit s i wx hs (by omega)
  have hM := meanJ.eq_1 (s.data.toList.getD (i + 1) 0)
  have hl6 : unitL (s.data.toList.drop i) ≠ -1 → i + 6 ≤ s.size := fun h => by
    have := unitL_len _ h
    rw [List.length_drop] at this
    have h2 : s.data.toList.length = s.size := by simp
    omega
  have cV : i + 6 ≤ s.size → ∀ wx, _ := fun h wx => jref_unit s (i + 6) wx hs h
  rw [show ((i + 6 : Nat) : Int) = (i : Int) + 6 by omega] at cV
  generalize unitL (s.data.toList.drop i) = U at *
  generalize unitL (s.data.toList.drop (i + 6)) = V at *
  generalize meanJ (s.data.toList.getD (i + 1) 0) = M at *
  generalize s.data.toList.getD (i + 1) 0 = x at *
  generalize seqL (s.data.toList.drop i) = Q at *
  obtain ⟨z, hzx⟩ : ∃ z : Int, (x.toNat : Int) = z := ⟨_, rfl⟩
  rw [hzx] at hix1 hM
  have two : ∀ a : Int, a ≠ -1 → M = a → Q = (a, 2) := fun a ha h => by rw [hu, h, if_pos ha]
  rcases (by omega : z = 34 ∨ z = 92 ∨ z = 47 ∨ z = 98 ∨ z = 102 ∨ z = 110 ∨ z = 114 ∨ z = 116 ∨ (z ≠ 34 ∧ z ≠ 92 ∧ z ≠ 47 ∧ z ≠ 98 ∧ z ≠ 102 ∧ z ≠ 110 ∧ z ≠ 114 ∧ z ≠ 116)) with rfl | rfl | rfl | rfl | rfl | rfl | rfl | rfl | ⟨h1, h2, h3, h4, h5, h6, h7, h8⟩
  · have HQ := Lib.hid (two 34 (by omega) (by rw [hM, if_pos (by omega)]))
    
    clear hu hM two cU cV hl6 hzx
    go_enter Tryz.func74, Tryz.ntmps74
    go_wp2
    exact bodyPost_ret (v := .tuple #[.int .i64 34, .int .i64 2]) (by simp [results, Tryz.results74, go_sem]) rfl ⟨jretS HQ.out, rfl⟩
  · have HQ := Lib.hid (two 92 (by omega) (by rw [hM, if_pos (by omega)]))
    
    clear hu hM two cU cV hl6 hzx
    go_enter Tryz.func74, Tryz.ntmps74
    go_wp2
    exact bodyPost_ret (v := .tuple #[.int .i64 92, .int .i64 2]) (by simp [results, Tryz.results74, go_sem]) rfl ⟨jretS HQ.out, rfl⟩
  · have HQ := Lib.hid (two 47 (by omega) (by rw [hM, if_pos (by omega)]))
    
    clear hu hM two cU cV hl6 hzx
    go_enter Tryz.func74, Tryz.ntmps74
    go_wp2
    exact bodyPost_ret (v := .tuple #[.int .i64 47, .int .i64 2]) (by simp [results, Tryz.results74, go_sem]) rfl ⟨jretS HQ.out, rfl⟩
  · have HQ := Lib.hid (two 8 (by omega) (by rw [hM, if_neg (by omega), if_pos (by omega)]))
    
    clear hu hM two cU cV hl6 hzx
    go_enter Tryz.func74, Tryz.ntmps74
    go_wp2
    exact bodyPost_ret (v := .tuple #[.int .i64 8, .int .i64 2]) (by simp [results, Tryz.results74, go_sem]) rfl ⟨jretS HQ.out, rfl⟩
  · have HQ := Lib.hid (two 12 (by omega) (by rw [hM, if_neg (by omega), if_neg (by omega), if_pos (by omega)]))
    
    clear hu hM two cU cV hl6 hzx
    go_enter Tryz.func74, Tryz.ntmps74
    go_wp2
    exact bodyPost_ret (v := .tuple #[.int .i64 12, .int .i64 2]) (by simp [results, Tryz.results74, go_sem]) rfl ⟨jretS HQ.out, rfl⟩
  · have HQ := Lib.hid (two 10 (by omega) (by rw [hM, if_neg (by omega), if_neg (by omega), if_neg (by omega), if_pos (by omega)]))
    
    clear hu hM two cU cV hl6 hzx
    go_enter Tryz.func74, Tryz.ntmps74
    go_wp2
    exact bodyPost_ret (v := .tuple #[.int .i64 10, .int .i64 2]) (by simp [results, Tryz.results74, go_sem]) rfl ⟨jretS HQ.out, rfl⟩
  · have HQ := Lib.hid (two 13 (by omega) (by rw [hM, if_neg (by omega), if_neg (by omega), if_neg (by omega), if_neg (by omega), if_pos (by omega)]))
    
    clear hu hM two cU cV hl6 hzx
    go_enter Tryz.func74, Tryz.ntmps74
    go_wp2
    exact bodyPost_ret (v := .tuple #[.int .i64 13, .int .i64 2]) (by simp [results, Tryz.results74, go_sem]) rfl ⟨jretS HQ.out, rfl⟩
  · have HQ := Lib.hid (two 9 (by omega) (by rw [hM, if_neg (by omega), if_neg (by omega), if_neg (by omega), if_neg (by omega), if_neg (by omega), if_pos (by omega)]))
    
    clear hu hM two cU cV hl6 hzx
    go_enter Tryz.func74, Tryz.ntmps74
    go_wp2
    exact bodyPost_ret (v := .tuple #[.int .i64 9, .int .i64 2]) (by simp [results, Tryz.results74, go_sem]) rfl ⟨jretS HQ.out, rfl⟩
  · rw [if_neg (by omega), if_neg (by omega), if_neg (by omega), if_neg (by omega), if_neg (by omega), if_neg (by omega)] at hM
    rw [hM, if_neg (by omega)] at hu
    clear hM two hzx
    obtain ⟨hU0, hU1⟩ := hU
    obtain ⟨hV0, hV1⟩ := hV
    by_cases c1 : 55296 ≤ U ∧ U ≤ 56319
    · obtain ⟨c1a, c1b⟩ := c1
      rw [if_pos ⟨c1a, c1b⟩] at hu
      have cV := cV (hl6 (by omega))
      clear hl6
      by_cases c2 : 56320 ≤ V ∧ V ≤ 57343
      · obtain ⟨c2a, c2b⟩ := c2
        rw [if_pos ⟨c2a, c2b⟩] at hu
        have HQ := Lib.hid hu
        clear hu
        go_enter Tryz.func74, Tryz.ntmps74
        (go_wp2_with fail); (refine (cU _).mono ?_); (rintro e w' ⟨rfl, rfl⟩)
        (go_wp2_with fail); (refine (cV _).mono ?_); (rintro e w' ⟨rfl, rfl⟩)
        go_wp2
        exact bodyPost_ret (v := .tuple #[.int .i64 (65536 + (U - 55296) * 1024 + (V - 56320)), .int .i64 12]) (by simp [results, Tryz.results74, go_sem]; omega) rfl ⟨jretS HQ.out, rfl⟩
      · rw [if_neg c2] at hu
        have HQ := Lib.hid hu
        clear hu
        rcases (by omega : V < 56320 ∨ 57343 < V) with d | d
        all_goals
          clear c2
          go_enter Tryz.func74, Tryz.ntmps74
          (go_wp2_with fail); (refine (cU _).mono ?_); (rintro e w' ⟨rfl, rfl⟩)
          (go_wp2_with fail); (refine (cV _).mono ?_); (rintro e w' ⟨rfl, rfl⟩)
          go_wp2
          exact bodyPost_ret (v := .tuple #[.int .i64 0, .int .i64 0]) (by simp [results, Tryz.results74, go_sem]) rfl ⟨jretS HQ.out, rfl⟩
    · rw [if_neg c1] at hu
      clear cV hl6
      by_cases c2 : U < 0 ∨ (56320 ≤ U ∧ U ≤ 57343)
      · rw [if_pos c2] at hu
        have HQ := Lib.hid hu
        clear hu c1
        rcases c2 with d | ⟨d, d'⟩
        all_goals
          go_enter Tryz.func74, Tryz.ntmps74
          (go_wp2_with fail); (refine (cU _).mono ?_); (rintro e w' ⟨rfl, rfl⟩)
          go_wp2
          exact bodyPost_ret (v := .tuple #[.int .i64 0, .int .i64 0]) (by simp [results, Tryz.results74, go_sem]) rfl ⟨jretS HQ.out, rfl⟩
      · rw [if_neg c2] at hu
        have HQ := Lib.hid hu
        clear hu
        have d0 : ¬ U < 0 := by omega
        rcases (by omega : U < 55296 ∨ 57343 < U) with d | d
        all_goals
          clear c1 c2
          go_enter Tryz.func74, Tryz.ntmps74
          (go_wp2_with fail); (refine (cU _).mono ?_); (rintro e w' ⟨rfl, rfl⟩)
          go_wp2
          exact bodyPost_ret (v := .tuple #[.int .i64 U, .int .i64 6]) (by simp [results, Tryz.results74, go_sem]) rfl ⟨jretS HQ.out, rfl⟩
end Go.Proofs.YtkkiklaoljdhhaaGreatDoor
end
section
namespace Go.Proofs.YtkkiklaoljdhhaaGreatDoor
open Go.RowKit Go.Lib
theorem jrow_below {B : Nat} {e : TypeId} {k : Nat} {v : Value} {n : Nat} {xs : List Value} {w w' : World} (h : w.ownsRow B e k v n xs) (hb : Below w.heap.size w w') : w'.ownsRow B e k v n xs := by
  refine ⟨h.1, ?_⟩
  rcases h.2 with h0 | ⟨g, cap, cur, hv, hB, hg, rest⟩
  · exact .inl h0
  · have hlt : g < w.heap.size := (Array.getElem?_eq_some_iff.1 hg).1
    exact .inr ⟨g, cap, cur, hv, hB, (hb.block g hlt).trans hg, rest⟩
end Go.Proofs.YtkkiklaoljdhhaaGreatDoor
end
section
namespace Go.Proofs.YtkkiklaoljdhhaaGreatDoor
open Go.RowKit
theorem eob_cat (a b : List UInt8) : ofBytes a ++ ofBytes b = ofBytes (a ++ b) := (jb_app a b).symm
theorem jretP {a : List UInt8} {b c : Int} {p : List UInt8 × Int × Int} (h : p = (a, b, c)) : Ending.returned (.tuple #[.string (ofBytes a), .int .i64 b, .int .i64 c]) = .returned (.tuple #[.string (ofBytes p.1), .int .i64 p.2.1, .int .i64 p.2.2]) := by subst h; rfl
theorem decL_low (l : List UInt8) (hl : l ≠ []) (h : (decL l).2 ≠ 0) : ((decL l).1 < 128 ↔ (l.getD 0 0).toNat < 128) ∧ ((decL l).1 < 128 → (decL l).1 = (l.getD 0 0).toNat ∧ (decL l).2 = 1) := by
  obtain ⟨c, t, rfl⟩ := List.exists_cons_of_ne_nil hl
  rw [getD_cons0]
  rcases Nat.lt_or_ge c.toNat 128 with hc | hc
  · rw [decL_asc c t hc]
    exact ⟨Iff.rfl, fun _ => ⟨rfl, rfl⟩⟩
  · have := (decL_high c t hc h).1
    exact ⟨⟨fun h => by omega, fun h => by omega⟩, fun h => by omega⟩
theorem decL_zero (l : List UInt8) (hl : l ≠ []) (h : (decL l).2 = 0) : 128 ≤ (l.getD 0 0).toNat := by
  obtain ⟨c, t, rfl⟩ := List.exists_cons_of_ne_nil hl
  rw [getD_cons0]
  rcases Nat.lt_or_ge c.toNat 128 with hc | hc
  · rw [decL_asc c t hc] at h
    simp at h
  · exact hc
theorem parJ_dec (a i : Int) (l out : List UInt8) (hl : l ≠ []) : parJ a i l out =
    if (decL l).2 = 0 then ([], i, 5)
    else if (decL l).1 < 32 then ([], i, 6)
    else if (decL l).1 = 34 then (out, i + 1, 0)
    else if (decL l).1 = 92 then (if l.length = 1 then ([], a, 8) else if (seqL l).2 = 0 then ([], i, 16) else parJ a (i + (seqL l).2) (l.drop (seqL l).2) (out ++ eb (seqL l).1))
    else parJ a (i + (decL l).2) (l.drop (decL l).2) (out ++ eb ((decL l).1 : Nat)) := by
  rw [parJ_eq a i l out hl]
  have e34 := u8_at (l.getD 0 0) 34
  have e92 := u8_at (l.getD 0 0) 92
  rw [show (((34 : UInt8).toNat : Nat) : Int) = 34 from rfl] at e34
  rw [show (((92 : UInt8).toNat : Nat) : Int) = 92 from rfl] at e92
  simp only [e34, e92]
  by_cases h0 : (decL l).2 = 0
  · have := decL_zero l hl h0
    clear e34 e92
    repeat' split
    all_goals first | rfl | (exfalso; omega)
  · obtain ⟨h1, h2⟩ := decL_low l hl h0
    clear e34 e92
    by_cases hc : (decL l).1 < 128
    · obtain ⟨h3, h4⟩ := h2 hc
      clear h1 h2
      repeat' split
      all_goals first | rfl | (exfalso; omega)
    · have hh : ¬ (l.getD 0 0).toNat < 128 := fun h => hc (h1.2 h)
      clear h1 h2
      repeat' split
      all_goals first | rfl | (exfalso; omega)
set_option maxRecDepth 100000 in
set_option maxHeartbeats 16000000 in
theorem jref_Parse (s : ByteArray) (a : Int) (w : World) (hs : s.size ≤ 1000000) :
    Calls Tryz.prog 47 #[.string s, .int .i64 a] w fun e w' => e = .returned (.tuple #[.string (ofBytes (parP s.data.toList a).1), .int .i64 (parP s.data.toList a).2.1, .int .i64 (parP s.data.toList a).2.2]) ∧ Below w.heap.size w w' := by
  have hsl : s.data.toList.length = s.size := by simp
  have HSL := Lib.hid hsl
  have hp := parP.eq_1 s.data.toList a
  rw [hsl] at hp
  clear hsl
  generalize parP s.data.toList a = P at *
  by_cases h0 : a < 0
  · rw [if_neg (by omega)] at hp
    have HP := Lib.hid hp
    clear hp
    go_enter Tryz.func47, Tryz.ntmps47
    go_wp2
    exact bodyPost_ret (v := .tuple #[.string (ofBytes []), .int .i64 a, .int .i64 7]) (by simp [results, Tryz.results47, go_sem]; rfl) rfl ⟨jretP HP.out, Below.refl _ _⟩
  obtain ⟨n, rfl⟩ := Int.eq_ofNat_of_zero_le (by omega : 0 ≤ a)
  rw [Int.toNat_natCast] at hp
  by_cases h1 : n < s.size
  · have hix := jix s .i64 (n : Int) n rfl h1
    have e34 := u8_at (s.data.toList.getD n 0) 34
    rw [show (((34 : UInt8).toNat : Nat) : Int) = 34 from rfl] at e34
    generalize s.data.toList.getD n 0 = x at *
    generalize (x.toNat : Int) = z at *
    by_cases hq : z = 34
    · rw [if_pos ⟨by omega, by omega, e34.2 hq⟩] at hp
      have HP := Lib.hid hp
      subst hq
      clear hp e34
      go_enter Tryz.func47, Tryz.ntmps47
      go_wp2
      go_loopw [7, 8] (fun v q wr => ∃ (k : Nat) (acc : List UInt8), 1 ≤ k ∧ k ≤ s.size ∧ q = .int .i64 k ∧ v = .string (ofBytes acc) ∧ (P = parJ (n : Int) (k : Int) (s.data.toList.drop k) acc ∧ acc.length ≤ 4 * k) ∧ Below w.heap.size w wr) (fun _ q _ => s.size - (RowKit.intOf q).toNat)
      case atStart => exact ⟨n + 1, [], by omega, by omega, by go_num, rfl, ⟨HP.out, by simp⟩, Below.refl _ _⟩
      case round =>
        obtain ⟨k, acc, hk1, hk, rfl, rfl, ⟨hrel, hal⟩, hbel⟩ := hrel
        have hz := hbel.size
        clear HP hix
        by_cases hlt : k < s.size
        · have hdl : (s.data.toList.drop k).length = s.size - k := by rw [List.length_drop, HSL.out]
          have hne : s.data.toList.drop k ≠ [] := fun e => by rw [e] at hdl; simp at hdl; omega
          have cD : ∀ wx, _ := fun wx => ref_Decode s (k : Int) wx (by unfold maxLen; omega)
          rw [decI_at s k hlt, decP_drop s k (by omega)] at cD
          rw [parJ_dec _ _ _ _ hne, hdl, List.drop_drop, List.drop_drop] at hrel
          have hok := decL_ok _ hne
          rw [hdl] at hok
          have hlow := decL_low _ hne
          have hsq := fun h => seqL_ok (s.data.toList.drop k) (by rw [hdl]; exact h)
          rw [hdl] at hsq
          have cS : k + 2 ≤ s.size → ∀ wx, _ := fun h wx => jref_sequence s k wx hs h
          have ha6 : (ofBytes acc).size ≤ 4000000 := by rw [ofBytes_size]; omega
          clear hne hdl
          generalize seqL (s.data.toList.drop k) = Q at *
          generalize decL (s.data.toList.drop k) = d at *
          obtain ⟨r, m⟩ := d
          obtain ⟨q1, q2⟩ := Q
          simp only at cD hrel hok hlow hsq cS
          obtain ⟨hn1, hn2, hn3, _⟩ := hok
          obtain ⟨rz, hrz⟩ : ∃ rz : Int, (r : Int) = rz := ⟨_, rfl⟩
          rw [hrz] at cD hrel
          rcases Nat.eq_zero_or_pos m with rfl | hm0
          · rw [if_pos rfl] at hrel
            have HR := Lib.hid hrel
            clear hrel hlow hsq cS hrz
            go_wp2_with fail
            refine (cD _).mono ?_
            rintro e w1 ⟨rfl, b1⟩
            go_wp2
            exact bodyPost_ret (v := .tuple #[.string (ofBytes []), .int .i64 k, .int .i64 5]) (by simp [results, Tryz.results47, go_sem]; rfl) rfl ⟨jretP HR.out, hbel.trans (b1.mono hz)⟩
          rw [if_neg (by omega)] at hrel
          have hmz : ((m : Int) == 0) = false := by simp; omega
          have hmz2 : (m : Int) ≠ 0 := by omega
          have hr0 : 0 ≤ rz := by omega
          have hr1 : rz ≤ 1114111 := by omega
          clear hlow
          by_cases c1 : rz < 32
          · rw [if_pos (by omega)] at hrel
            have HR := Lib.hid hrel
            clear hrel hsq cS hrz
            go_wp2_with fail
            refine (cD _).mono ?_
            rintro e w1 ⟨rfl, b1⟩
            go_wp2
            exact bodyPost_ret (v := .tuple #[.string (ofBytes []), .int .i64 k, .int .i64 6]) (by simp [results, Tryz.results47, go_sem]; rfl) rfl ⟨jretP HR.out, hbel.trans (b1.mono hz)⟩
          rw [if_neg (by omega)] at hrel
          by_cases c2 : rz = 34
          · rw [if_pos (by omega)] at hrel
            have HR := Lib.hid hrel
            clear hrel hsq cS hrz
            subst c2
            go_wp2_with fail
            refine (cD _).mono ?_
            rintro e w1 ⟨rfl, b1⟩
            go_wp2
            exact bodyPost_ret (v := .tuple #[.string (ofBytes acc), .int .i64 ((k : Int) + 1), .int .i64 0]) (by simp [results, Tryz.results47, go_sem]) rfl ⟨jretP HR.out, hbel.trans (b1.mono hz)⟩
          rw [if_neg (by omega)] at hrel
          by_cases c3 : rz = 92
          · rw [if_pos (by omega)] at hrel
            subst c3
            by_cases c4 : k + 1 = s.size
            · rw [if_pos (by omega)] at hrel
              have HR := Lib.hid hrel
              have c4z : (k : Int) + 1 = (s.size : Int) := by omega
              have C4 := Lib.hid c4
              clear hrel hsq cS hrz c4
              go_wp2_with fail
              refine (cD _).mono ?_
              rintro e w1 ⟨rfl, b1⟩
              go_wp2
              exact bodyPost_ret (v := .tuple #[.string (ofBytes []), .int .i64 n, .int .i64 8]) (by simp [results, Tryz.results47, go_sem]; rfl) rfl ⟨jretP HR.out, hbel.trans (b1.mono hz)⟩
            rw [if_neg (by omega)] at hrel
            have cS := cS (by omega)
            have hsq := hsq (by omega)
            have c4z : ¬ (k : Int) + 1 = (s.size : Int) := by omega
            obtain ⟨s1, s2, s3, s4, s5, s6⟩ := hsq
            rcases Nat.eq_zero_or_pos q2 with rfl | hq0
            · rw [if_pos rfl] at hrel
              have HR := Lib.hid hrel
              clear hrel hrz
              go_wp2_with fail
              refine (cD _).mono ?_
              rintro e w1 ⟨rfl, b1⟩
              (go_wp2_with fail); (refine (cS _).mono ?_); (rintro e w' ⟨rfl, rfl⟩)
              go_wp2
              exact bodyPost_ret (v := .tuple #[.string (ofBytes []), .int .i64 k, .int .i64 16]) (by simp [results, Tryz.results47, go_sem]; rfl) rfl ⟨jretP HR.out, hbel.trans (b1.mono hz)⟩
            · rw [if_neg (by omega)] at hrel
              have cE : ∀ wx, _ := fun wx => ref_Encode q1 wx
              rw [eb_str] at cE
              have hebl := eb_len q1
              have hes : (ofBytes (eb q1)).size ≤ 4 := by rw [ofBytes_size]; exact hebl
              have hq2z : (q2 : Int) ≠ 0 := by omega
              have HAP := Lib.hid (eob_cat acc (eb q1))
              have HR := Lib.hid hrel
              clear hrel hrz s5 s6
              go_wp2_with fail
              refine (cD _).mono ?_
              rintro e w1 ⟨rfl, b1⟩
              (go_wp2_with fail); (refine (cS _).mono ?_); (rintro e w' ⟨rfl, rfl⟩)
              go_wp2_with fail
              refine (cE _).mono ?_
              rintro e w2 ⟨rfl, b2⟩
              go_wp2
              go_roundw
              case rel => exact ⟨k + q2, acc ++ eb q1, by omega, by omega, by go_num, by rw [HAP.out], ⟨HR.out, by rw [List.length_append]; omega⟩, (hbel.trans (b1.mono hz)).trans (b2.mono (by have := b1.size; omega))⟩
              case measure => simp [RowKit.intOf]; omega
          · rw [if_neg (by omega)] at hrel
            have cE : ∀ wx, _ := fun wx => ref_Encode rz wx
            rw [eb_str] at cE
            have hebl := eb_len rz
            have hes : (ofBytes (eb rz)).size ≤ 4 := by rw [ofBytes_size]; exact hebl
            have HAP := Lib.hid (eob_cat acc (eb rz))
            have HR := Lib.hid hrel
            clear hrel hrz hsq cS
            go_wp2_with fail
            refine (cD _).mono ?_
            rintro e w1 ⟨rfl, b1⟩
            go_wp2_with fail
            refine (cE _).mono ?_
            rintro e w2 ⟨rfl, b2⟩
            go_wp2
            go_roundw
            case rel => exact ⟨k + m, acc ++ eb rz, by omega, by omega, by go_num, by rw [HAP.out], ⟨HR.out, by rw [List.length_append]; omega⟩, (hbel.trans (b1.mono hz)).trans (b2.mono (by have := b1.size; omega))⟩
            case measure => simp [RowKit.intOf]; omega
        · obtain rfl : k = s.size := by omega
          rw [List.drop_eq_nil_of_le (by have := HSL.out; omega), parJ_nil] at hrel
          have HR := Lib.hid hrel
          clear hrel
          go_wp2
          exact bodyPost_ret (v := .tuple #[.string (ofBytes []), .int .i64 n, .int .i64 8]) (by simp [results, Tryz.results47, go_sem]; rfl) rfl ⟨jretP HR.out, hbel⟩
    · rw [if_neg (fun h => hq (e34.1 h.2.2))] at hp
      have HP := Lib.hid hp
      have hqb : (z != 34) = true := by simpa using hq
      clear hp e34
      go_enter Tryz.func47, Tryz.ntmps47
      go_wp2
      exact bodyPost_ret (v := .tuple #[.string (ofBytes []), .int .i64 n, .int .i64 7]) (by simp [results, Tryz.results47, go_sem]; rfl) rfl ⟨jretP HP.out, Below.refl _ _⟩
  · rw [if_neg (by omega)] at hp
    have HP := Lib.hid hp
    clear hp
    go_enter Tryz.func47, Tryz.ntmps47
    go_wp2
    exact bodyPost_ret (v := .tuple #[.string (ofBytes []), .int .i64 n, .int .i64 7]) (by simp [results, Tryz.results47, go_sem]; rfl) rfl ⟨jretP HP.out, Below.refl _ _⟩
end Go.Proofs.YtkkiklaoljdhhaaGreatDoor
end
