/- strconv.ParseUint at base 16 and four bytes; package jsonstring: number, sequence: what each returns. -/
import Derived.Test.YtdkinamblobjpaaDoorJsF
import Derived.Test.YtdkinamblobjpaaDoorRow
import Derived.Test.YtdkinamblobjpaaDoorStrK
import Derived.Test.YtdkinamblobjpaaDoorShelf
import Derived.Lib.ConvBytes
import Derived.Laws.Closers25
import Derived.Laws.Closers25b
import Derived.BigCall
import Derived.BigGuard
namespace Go.Proofs.YtdkinamblobjpaaDoor
open Go.RowKit

/-- A byte in lower case, as ParseUint makes it. -/
theorem lower_kinds : ∀ n : Fin 256, (0 ≤ bits .or .u8 (n.val : Int) 32 ∧ bits .or .u8 (n.val : Int) 32 ≤ 255) ∧ (97 ≤ n.val ∧ n.val ≤ 102 → bits .or .u8 (n.val : Int) 32 = (n.val : Int)) ∧ (65 ≤ n.val ∧ n.val ≤ 70 → bits .or .u8 (n.val : Int) 32 = (n.val : Int) + 32) ∧
    (¬ (97 ≤ n.val ∧ n.val ≤ 102) → ¬ (65 ≤ n.val ∧ n.val ≤ 70) → bits .or .u8 (n.val : Int) 32 < 97 ∨ (102 < bits .or .u8 (n.val : Int) 32 ∧ bits .or .u8 (n.val : Int) 32 ≤ 122) ∨ 122 < bits .or .u8 (n.val : Int) 32) := by decide +kernel
def puV (H : Int) : Value := if H = -1 then .tuple #[.int .u64 0, .iface 79 (.int .i64 2)] else .tuple #[.int .u64 H, .nilIface]
theorem js_lower (c L : Int) (w : World) (h : bits .or .u8 c 32 = L) : Calls Tryd.prog 41 #[.int .u8 c] w fun e w' => e = .returned (.int .u8 L) ∧ w = w' := by
  subst h
  exact (Tryd.internal_strconv_lower c w).mono fun e w' ⟨a, b⟩ => ⟨a, b.symm⟩
theorem jretV {a b : Value} (h : a = b) : Ending.returned b = .returned a := by rw [h]
set_option maxRecDepth 100000 in
set_option maxHeartbeats 32000000 in
theorem js_inner (t : ByteArray) (w : World) (h4 : t.size = 4) :
    Calls Tryd.prog 39 #[.string t, .int .i64 16, .int .i64 16] w fun e w' => e = .returned (puV (hexGo t.data.toList 0)) ∧ Below w.heap.size w w' := by
  have hl : t.data.toList.length = 4 := by rw [← h4]; simp
  have hemp : t.toList.isEmpty = false := by
    rw [ByteArray.toList_eq]
    cases h : t.data.toList with
    | nil => rw [h] at hl; simp at hl
    | cons _ _ => rfl
  have hemp2 : (t.toList == []) = false := by
    rw [ByteArray.toList_eq]
    cases h : t.data.toList with
    | nil => rw [h] at hl; simp at hl
    | cons _ _ => rfl
  have hcv := Lib.run_convert_string_bytes (P := Tryd.prog) w 9 38 5 t (u := .string) Tryd.underlying9 Tryd.underlying38 Tryd.underlying5
  have hB : ∀ j, j < t.size → (Lib.bytesWorld w 5 t).cell? ⟨w.heap.size, j, none⟩ = some (.int .u8 (t.data.toList.getD j 0).toNat) := fun j hj => Lib.bytesWorld_cell w 5 t j hj
  have hbl := conv_below w 5 t
  rw [h4] at hcv hB
  obtain ⟨W1, hW1⟩ : ∃ W1, W1 = Lib.bytesWorld w 5 t := ⟨_, rfl⟩
  rw [← hW1] at hcv hB hbl
  clear hW1 h4
  obtain ⟨bs, hL⟩ : ∃ bs, bs = t.data.toList := ⟨_, rfl⟩
  rw [← hL] at hB hl ⊢
  clear hL
  have HL := Lib.hid hl
  have hV := puV.eq_1 (hexGo bs 0)
  generalize puV (hexGo bs 0) = PV at *
  have HV := Lib.hid hV
  have hmv : IntKind.u64.wrap (IntKind.u64.wrap 65536 - 1) = 65535 := by
    rw [IntKind.wrap_u64, IntKind.wrap_u64]
    decide
  clear hl hV
  go_enter Tryd.func39, Tryd.ntmps39
  go_wp2
  go_loop [12, 13, 101] (fun vu vn vi => ∃ (k : Nat) (m : Int), vu = .bool false ∧ vn = .int .u64 m ∧ vi = .int .i64 k ∧ k ≤ 4 ∧ 0 ≤ m ∧ m < hexB k ∧ hexGo bs 0 = hexGo (bs.drop k) m) (fun _ _ vi => 4 - (RowKit.intOf vi).toNat)
  case atStart => exact ⟨0, 0, rfl, rfl, rfl, by omega, by omega, by decide, rfl⟩
  case round =>
    obtain ⟨k, m, rfl, rfl, rfl, hk, hm0, hm1, hrel⟩ := hrel
    by_cases hkn : k < 4
    · have hkl : k < bs.length := by have := HL.out; omega
      have hc := hB k hkn
      have hg : bs.getD k 0 = bs[k] := by rw [List.getD_eq_getElem?_getD, List.getElem?_eq_getElem hkl]; rfl
      rw [List.drop_eq_getElem_cons hkl, ← hg, hexGo] at hrel
      have hb := hexB_le k
      have hmb : m ≤ 65535 := by omega
      generalize bs.getD k 0 = x at *
      have hst := fun v : Int => hexB_step k m v hkn hm1
      have hb2 := hexB_le (k + 1)
      have hV := hexV.eq_1 x
      have hx8 := x.toNat_lt
      have hlo := lower_kinds ⟨x.toNat, hx8⟩
      simp only at hlo
      obtain ⟨LZ, hLZ⟩ : ∃ L, bits .or .u8 (x.toNat : Int) 32 = L := ⟨_, rfl⟩
      obtain ⟨z, hzx⟩ : ∃ z : Int, (x.toNat : Int) = z := ⟨_, rfl⟩
      rw [hLZ] at hlo
      rw [hzx] at hLZ hc
      have cl : ∀ wx, _ := fun wx => js_lower z LZ wx hLZ
      have hz0 : 0 ≤ z := by omega
      have hz8 : z ≤ 255 := by omega
      obtain ⟨⟨hl0, hl1⟩, hl2, hl3, hl4⟩ := hlo
      rw [show (x.toNat : Int) = z from hzx] at hl2 hl3 hV
      clear hg hkl hm1 hB hLZ
      by_cases c1 : 48 ≤ z ∧ z ≤ 57
      · obtain ⟨c1a, c1b⟩ := c1
        rw [if_pos (by omega)] at hV
        rw [if_neg (by omega), hV] at hrel
        have hnb := hst (z - 48) (by omega)
        have hn5 : m * 16 + (z - 48) ≤ 65535 := by omega
        have HR := Lib.hid hrel
        have HN := Lib.hid hnb
        have hu : (z == 95) = false := by simp; omega
        clear hrel hV hzx hl2 hl3 hl4 hst hnb cl hb2
        go_wp2
        go_round
        case rel => exact ⟨k + 1, m * 16 + (z - 48), rfl, by go_num, by go_num, by omega, by omega, HN.out, HR.out⟩
        case measure => simp [RowKit.intOf]; omega
      · rw [if_neg (by omega)] at hV
        by_cases c2 : 97 ≤ z ∧ z ≤ 102
        · obtain ⟨c2a, c2b⟩ := c2
          have c1n : ¬ z ≤ 57 := by omega
          obtain rfl : LZ = z := hl2 (by omega)
          rw [if_pos (by omega)] at hV
          rw [if_neg (by omega), hV] at hrel
          have hnb := hst (LZ - 87) (by omega)
          have hn5 : m * 16 + (LZ - 87) ≤ 65535 := by omega
          have HR := Lib.hid hrel
          have HN := Lib.hid hnb
          have hu : (LZ == 95) = false := by simp; omega
          clear hrel hV hzx hl2 hl3 hl4 hst hnb hb2 c1
          go_wp2_with (refine (cl _).mono ?_; rintro e w' ⟨rfl, rfl⟩)
          go_round
          case rel => exact ⟨k + 1, m * 16 + (LZ - 87), rfl, by go_num, by go_num, by omega, by omega, HN.out, HR.out⟩
          case measure => simp [RowKit.intOf]; omega
        · rw [if_neg (by omega)] at hV
          by_cases c3 : 65 ≤ z ∧ z ≤ 70
          · obtain ⟨c3a, c3b⟩ := c3
            have c1n : ¬ z ≤ 57 := by omega
            obtain rfl : LZ = z + 32 := hl3 (by omega)
            rw [if_pos (by omega)] at hV
            rw [if_neg (by omega), hV] at hrel
            have hnb := hst (z - 55) (by omega)
            have hn5 : m * 16 + (z - 55) ≤ 65535 := by omega
            have HR := Lib.hid hrel
            have HN := Lib.hid hnb
            have hu : (z == 95) = false := by simp; omega
            clear hrel hV hzx hl2 hl3 hl4 hst hnb hb2 c1 c2
            go_wp2_with (refine (cl _).mono ?_; rintro e w' ⟨rfl, rfl⟩)
            go_round
            case rel => exact ⟨k + 1, m * 16 + (z - 55), rfl, by go_num, by go_num, by omega, by omega, HN.out, HR.out⟩
            case measure => simp [RowKit.intOf]; omega
          · rw [if_neg (by omega)] at hV
            rw [hV, if_pos rfl] at hrel
            have hPV := HV.out
            rw [hrel, if_pos rfl] at hPV
            have HP := Lib.hid hPV
            have hlc := hl4 (by omega) (by omega)
            have C1 := Lib.hid c1
            clear hrel hV hl2 hl3 hl4 hst hb2 c1 c2 c3 hPV HV hzx
            rcases (by have := C1.out; omega : z < 48 ∨ (57 < z ∧ z = 95) ∨ (57 < z ∧ z ≠ 95)) with d | ⟨d, rfl⟩ | ⟨d, d'⟩
            · have hu : (z == 95) = false := by simp; omega
              clear C1
              rcases hlc with g | ⟨g, g'⟩ | g
              all_goals
                go_wp2_with (refine (cl _).mono ?_; rintro e w' ⟨rfl, rfl⟩)
                exact bodyPost_ret (v := .tuple #[.int .u64 0, .iface 79 (.int .i64 2)]) (by simp [results, Tryd.results39, go_sem]) rfl ⟨jretV HP.out, hbl⟩
            · clear C1
              rcases hlc with g | ⟨g, g'⟩ | g
              all_goals
                go_wp2_with (refine (cl _).mono ?_; rintro e w' ⟨rfl, rfl⟩)
                exact bodyPost_ret (v := .tuple #[.int .u64 0, .iface 79 (.int .i64 2)]) (by simp [results, Tryd.results39, go_sem]) rfl ⟨jretV HP.out, hbl⟩
            · have hu : (z == 95) = false := by simpa using d'
              clear C1 d'
              rcases hlc with g | ⟨g, g'⟩ | g
              all_goals
                go_wp2_with (refine (cl _).mono ?_; rintro e w' ⟨rfl, rfl⟩)
                exact bodyPost_ret (v := .tuple #[.int .u64 0, .iface 79 (.int .i64 2)]) (by simp [results, Tryd.results39, go_sem]) rfl ⟨jretV HP.out, hbl⟩
    · obtain rfl : k = 4 := by omega
      rw [List.drop_eq_nil_of_le (by have := HL.out; omega), hexGo] at hrel
      have hPV := HV.out
      rw [hrel, if_neg (by omega)] at hPV
      have HP := Lib.hid hPV
      clear hrel hPV HV hB
      go_wp2
      exact bodyPost_ret (v := .tuple #[.int .u64 m, .nilIface]) (by simp [results, Tryd.results39, go_sem]) rfl ⟨jretV HP.out, hbl⟩
end Go.Proofs.YtdkinamblobjpaaDoor
