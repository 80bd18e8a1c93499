/- Packed from the texts JsF JsG JsH. -/
import Derived.Test.YtdooadalkbghgaaGreatDoorVShelf
import Derived.Test.YtdooadalkbghgaaGreatDoorVkB
import Derived.Test.YtdooadalkbghgaaGreatDoorVkC
import Derived.Test.YtdooadalkbghgaaGreatDoorVkE
import Derived.Test.YtdooadalkbghgaaGreatDoorVkF
import Derived.Deep.QuietTactic
import Derived.BigQuiet
import Derived.WalkSmall
import Derived.Lib.ConvBytes
import Derived.Laws.Closers25
import Derived.Laws.Closers25b
import Derived.BigCall
import Derived.BigGuard
section
namespace Go.Proofs.YtdooadalkbghgaaGreatDoor
open Go.RowKit
def escT : List (Int × Int) := [(34, 34), (92, 92), (47, 47), (98, 8), (102, 12), (110, 10), (114, 13), (116, 9)]
def escV : Value := .agg #[.int .u8 34, .int .u8 34, .int .u8 92, .int .u8 92, .int .u8 47, .int .u8 47, .int .u8 98, .int .u8 8, .int .u8 102, .int .u8 12, .int .u8 110, .int .u8 10, .int .u8 114, .int .u8 13, .int .u8 116, .int .u8 9]
def EscJ (w : World) : Prop := ∀ i, i < 8 → w.cell? ⟨3, i * 2, none⟩ = some (.int .u8 (escT.getD i (0, 0)).1) ∧ w.cell? ⟨3, i * 2 + 1, none⟩ = some (.int .u8 (escT.getD i (0, 0)).2)
def ErrJ (w : World) : Prop := ∃ te pe, w.cell? ⟨6, 0, none⟩ = some (.iface te pe)
def TabJ (w : World) : Prop := HasUtf8 w ∧ EscJ w ∧ ErrJ w
theorem jblock_lt {w : World} {a : Addr} {v : Value} (hc : w.cell? a = some v) : a.block < w.heap.size := by
  rcases Nat.lt_or_ge a.block w.heap.size with h' | h'
  · exact h'
  · simp [World.cell?, Array.getElem?_eq_none h'] at hc
theorem EscJ_below {w w' : World} (h : EscJ w) (hb : Below w.heap.size w w') : EscJ w' := fun i hi => by
  obtain ⟨h1, h2⟩ := h i hi
  exact ⟨(hb.cell (jblock_lt h1)).trans h1, (hb.cell (jblock_lt h2)).trans h2⟩
theorem ErrJ_below {w w' : World} (h : ErrJ w) (hb : Below w.heap.size w w') : ErrJ w' := by
  obtain ⟨te, pe, h⟩ := h
  exact ⟨te, pe, (hb.cell (jblock_lt h)).trans h⟩
def lfL (c : Int) : List (Int × Int) → Int × Bool
  | [] => (0, false)
  | (l, m) :: r => if m = c then (l, true) else lfL c r
theorem escT_drop : ∀ k : Fin 8, escT.drop k.val = (escT.getD k.val (0, 0)) :: escT.drop (k.val + 1) := by decide
theorem escV_at (k : Nat) (h : k < 8) (w : World) : (Instr.index 141 escV (.int .i64 (k : Int))).run Tryz.prog w = .ok (.agg #[.int .u8 (escT.getD k (0, 0)).1, .int .u8 (escT.getD k (0, 0)).2]) w := by
  have h0 : ∀ wx, (Instr.index 141 (.agg #[.int .u8 34, .int .u8 34, .int .u8 92, .int .u8 92, .int .u8 47, .int .u8 47, .int .u8 98, .int .u8 8, .int .u8 102, .int .u8 12, .int .u8 110, .int .u8 10, .int .u8 114, .int .u8 13, .int .u8 116, .int .u8 9]) (.int .i64 0)).run Tryz.prog wx = .ok (.agg #[.int .u8 34, .int .u8 34]) wx := fun _ => by kernel_rfl
  have h1 : ∀ wx, (Instr.index 141 (.agg #[.int .u8 34, .int .u8 34, .int .u8 92, .int .u8 92, .int .u8 47, .int .u8 47, .int .u8 98, .int .u8 8, .int .u8 102, .int .u8 12, .int .u8 110, .int .u8 10, .int .u8 114, .int .u8 13, .int .u8 116, .int .u8 9]) (.int .i64 1)).run Tryz.prog wx = .ok (.agg #[.int .u8 92, .int .u8 92]) wx := fun _ => by kernel_rfl
  have h2 : ∀ wx, (Instr.index 141 (.agg #[.int .u8 34, .int .u8 34, .int .u8 92, .int .u8 92, .int .u8 47, .int .u8 47, .int .u8 98, .int .u8 8, .int .u8 102, .int .u8 12, .int .u8 110, .int .u8 10, .int .u8 114, .int .u8 13, .int .u8 116, .int .u8 9]) (.int .i64 2)).run Tryz.prog wx = .ok (.agg #[.int .u8 47, .int .u8 47]) wx := fun _ => by kernel_rfl
  have h3 : ∀ wx, (Instr.index 141 (.agg #[.int .u8 34, .int .u8 34, .int .u8 92, .int .u8 92, .int .u8 47, .int .u8 47, .int .u8 98, .int .u8 8, .int .u8 102, .int .u8 12, .int .u8 110, .int .u8 10, .int .u8 114, .int .u8 13, .int .u8 116, .int .u8 9]) (.int .i64 3)).run Tryz.prog wx = .ok (.agg #[.int .u8 98, .int .u8 8]) wx := fun _ => by kernel_rfl
  have h4 : ∀ wx, (Instr.index 141 (.agg #[.int .u8 34, .int .u8 34, .int .u8 92, .int .u8 92, .int .u8 47, .int .u8 47, .int .u8 98, .int .u8 8, .int .u8 102, .int .u8 12, .int .u8 110, .int .u8 10, .int .u8 114, .int .u8 13, .int .u8 116, .int .u8 9]) (.int .i64 4)).run Tryz.prog wx = .ok (.agg #[.int .u8 102, .int .u8 12]) wx := fun _ => by kernel_rfl
  have h5 : ∀ wx, (Instr.index 141 (.agg #[.int .u8 34, .int .u8 34, .int .u8 92, .int .u8 92, .int .u8 47, .int .u8 47, .int .u8 98, .int .u8 8, .int .u8 102, .int .u8 12, .int .u8 110, .int .u8 10, .int .u8 114, .int .u8 13, .int .u8 116, .int .u8 9]) (.int .i64 5)).run Tryz.prog wx = .ok (.agg #[.int .u8 110, .int .u8 10]) wx := fun _ => by kernel_rfl
  have h6 : ∀ wx, (Instr.index 141 (.agg #[.int .u8 34, .int .u8 34, .int .u8 92, .int .u8 92, .int .u8 47, .int .u8 47, .int .u8 98, .int .u8 8, .int .u8 102, .int .u8 12, .int .u8 110, .int .u8 10, .int .u8 114, .int .u8 13, .int .u8 116, .int .u8 9]) (.int .i64 6)).run Tryz.prog wx = .ok (.agg #[.int .u8 114, .int .u8 13]) wx := fun _ => by kernel_rfl
  have h7 : ∀ wx, (Instr.index 141 (.agg #[.int .u8 34, .int .u8 34, .int .u8 92, .int .u8 92, .int .u8 47, .int .u8 47, .int .u8 98, .int .u8 8, .int .u8 102, .int .u8 12, .int .u8 110, .int .u8 10, .int .u8 114, .int .u8 13, .int .u8 116, .int .u8 9]) (.int .i64 7)).run Tryz.prog wx = .ok (.agg #[.int .u8 116, .int .u8 9]) wx := fun _ => by kernel_rfl
  rcases (by omega : k = 0 ∨ k = 1 ∨ k = 2 ∨ k = 3 ∨ k = 4 ∨ k = 5 ∨ k = 6 ∨ k = 7) with rfl | rfl | rfl | rfl | rfl | rfl | rfl | rfl
  · exact h0 w
  · exact h1 w
  · exact h2 w
  · exact h3 w
  · exact h4 w
  · exact h5 w
  · exact h6 w
  · exact h7 w
theorem jretL {a : Int} {b : Bool} {p : Int × Bool} (h : p = (a, b)) : Ending.returned (.tuple #[.int .u8 a, .bool b]) = .returned (.tuple #[.int .u8 p.1, .bool p.2]) := by subst h; rfl
set_option maxRecDepth 100000 in
set_option maxHeartbeats 8000000 in
theorem js_letterFor (c : Int) (w : World) (hT : EscJ w) :
    Calls Tryz.prog 85 #[.int .u8 c] w fun e w' => e = .returned (.tuple #[.int .u8 (lfL c escT).1, .bool (lfL c escT).2]) ∧ Below w.heap.size w w' := by
  have c0 : w.cell? ⟨3, 0, none⟩ = some (.int .u8 34) := (hT 0 (by decide)).1
  have c1 : w.cell? ⟨3, 1, none⟩ = some (.int .u8 34) := (hT 0 (by decide)).2
  have c2 : w.cell? ⟨3, 2, none⟩ = some (.int .u8 92) := (hT 1 (by decide)).1
  have c3 : w.cell? ⟨3, 3, none⟩ = some (.int .u8 92) := (hT 1 (by decide)).2
  have c4 : w.cell? ⟨3, 4, none⟩ = some (.int .u8 47) := (hT 2 (by decide)).1
  have c5 : w.cell? ⟨3, 5, none⟩ = some (.int .u8 47) := (hT 2 (by decide)).2
  have c6 : w.cell? ⟨3, 6, none⟩ = some (.int .u8 98) := (hT 3 (by decide)).1
  have c7 : w.cell? ⟨3, 7, none⟩ = some (.int .u8 8) := (hT 3 (by decide)).2
  have c8 : w.cell? ⟨3, 8, none⟩ = some (.int .u8 102) := (hT 4 (by decide)).1
  have c9 : w.cell? ⟨3, 9, none⟩ = some (.int .u8 12) := (hT 4 (by decide)).2
  have c10 : w.cell? ⟨3, 10, none⟩ = some (.int .u8 110) := (hT 5 (by decide)).1
  have c11 : w.cell? ⟨3, 11, none⟩ = some (.int .u8 10) := (hT 5 (by decide)).2
  have c12 : w.cell? ⟨3, 12, none⟩ = some (.int .u8 114) := (hT 6 (by decide)).1
  have c13 : w.cell? ⟨3, 13, none⟩ = some (.int .u8 13) := (hT 6 (by decide)).2
  have c14 : w.cell? ⟨3, 14, none⟩ = some (.int .u8 116) := (hT 7 (by decide)).1
  have c15 : w.cell? ⟨3, 15, none⟩ = some (.int .u8 9) := (hT 7 (by decide)).2
  clear hT
  go_enter Tryz.func85, Tryz.ntmps85
  go_wp2
  rw [show (.agg #[.int .u8 34, .int .u8 34, .int .u8 92, .int .u8 92, .int .u8 47, .int .u8 47, .int .u8 98, .int .u8 8, .int .u8 102, .int .u8 12, .int .u8 110, .int .u8 10, .int .u8 114, .int .u8 13, .int .u8 116, .int .u8 9] : Value) = escV from rfl]
  go_loopw [7] (fun q wr => ∃ k : Nat, k ≤ 8 ∧ q = .int .i64 k ∧ lfL c escT = lfL c (escT.drop k) ∧ Below w.heap.size w wr) (fun q _ => 8 - (RowKit.intOf q).toNat)
  case atStart => exact ⟨0, by omega, rfl, rfl, Below.refl _ _⟩
  case round =>
    obtain ⟨k, hk, rfl, hrel, hbel⟩ := hrel
    have hz := hbel.size
    clear c0 c1 c2 c3 c4 c5 c6 c7 c8 c9 c10 c11 c12 c13 c14 c15
    by_cases hlt : k < 8
    · have hix := escV_at k hlt
      have hd := escT_drop ⟨k, hlt⟩
      simp only at hd
      rw [hd] at hrel
      generalize escT.getD k (0, 0) = lm at *
      obtain ⟨l, m⟩ := lm
      rw [lfL] at hrel
      simp only at hix
      have hlz : (k : Int) < 8 := by omega
      clear hd
      generalize escV = V at *
      by_cases hm : m = c
      · rw [if_pos hm] at hrel
        have HR := Lib.hid hrel
        have hmb : (m == c) = true := by simpa using hm
        clear hrel hm
        go_wp2
        go_ret2
        exact ⟨jretL HR.out, by (repeat (first | exact hbel | apply Below.drew | (refine Below.setCell ?_ (by first | omega | (simp; done) | (simp; omega)) _) | (refine Below.alloc ?_ (by first | omega | (simp; done) | (simp; omega)) _)))⟩
      · rw [if_neg hm] at hrel
        have HR := Lib.hid hrel
        have hmb : (m == c) = false := by simpa using hm
        clear hrel
        go_wp2
        go_roundw
        case rel => exact ⟨k + 1, by omega, by go_num, HR.out, by (repeat (first | exact hbel | apply Below.drew | (refine Below.setCell ?_ (by first | omega | (simp; done) | (simp; omega)) _) | (refine Below.alloc ?_ (by first | omega | (simp; done) | (simp; omega)) _)))⟩
        case measure => simp [RowKit.intOf]; omega
    · obtain rfl : k = 8 := by omega
      have HR := Lib.hid hrel
      clear hrel
      go_wp2
      go_ret2
      exact ⟨jretL HR.out, hbel⟩
end Go.Proofs.YtdooadalkbghgaaGreatDoor
end
section
namespace Go.Proofs.YtdooadalkbghgaaGreatDoor
open Go.RowKit
theorem lower_kinds : ∀ n : Fin 256, (0 ≤ bits .or .u8 (n.val : Int) 32 ∧ bits .or .u8 (n.val : Int) 32 ≤ 255) ∧ (97 ≤ n.val ∧ n.val ≤ 102 → bits .or .u8 (n.val : Int) 32 = (n.val : Int)) ∧ (65 ≤ n.val ∧ n.val ≤ 70 → bits .or .u8 (n.val : Int) 32 = (n.val : Int) + 32) ∧
    (¬ (97 ≤ n.val ∧ n.val ≤ 102) → ¬ (65 ≤ n.val ∧ n.val ≤ 70) → bits .or .u8 (n.val : Int) 32 < 97 ∨ (102 < bits .or .u8 (n.val : Int) 32 ∧ bits .or .u8 (n.val : Int) 32 ≤ 122) ∨ 122 < bits .or .u8 (n.val : Int) 32) := by decide +kernel
def puV (H : Int) : Value := if H = -1 then .tuple #[.int .u64 0, .iface 143 (.int .i64 2)] else .tuple #[.int .u64 H, .nilIface]
theorem js_lower (c L : Int) (w : World) (h : bits .or .u8 c 32 = L) : Calls Tryz.prog 111 #[.int .u8 c] w fun e w' => e = .returned (.int .u8 L) ∧ w = w' := by
  subst h
  exact (Tryz.internal_strconv_lower c w).mono fun e w' ⟨a, b⟩ => ⟨a, b.symm⟩
theorem jretV {a b : Value} (h : a = b) : Ending.returned b = .returned a := by rw [h]
set_option maxRecDepth 100000 in
set_option maxHeartbeats 32000000 in
theorem js_inner (t : ByteArray) (w : World) (h4 : t.size = 4) :
    Calls Tryz.prog 102 #[.string t, .int .i64 16, .int .i64 16] w fun e w' => e = .returned (puV (hexGo t.data.toList 0)) ∧ Below w.heap.size w w' := by
  have hl : t.data.toList.length = 4 := by rw [← h4]; simp
  have hemp : t.toList.isEmpty = false := by
    rw [ByteArray.toList_eq]
    cases h : t.data.toList with
    | nil => rw [h] at hl; simp at hl
    | cons _ _ => rfl
  have hemp2 : (t.toList == []) = false := by
    rw [ByteArray.toList_eq]
    cases h : t.data.toList with
    | nil => rw [h] at hl; simp at hl
    | cons _ _ => rfl
  have hcv := Lib.run_convert_string_bytes (P := Tryz.prog) w 9 47 5 t (u := .string) Tryz.underlying9 Tryz.underlying47 Tryz.underlying5
  have hB : ∀ j, j < t.size → (Lib.bytesWorld w 5 t).cell? ⟨w.heap.size, j, none⟩ = some (.int .u8 (t.data.toList.getD j 0).toNat) := fun j hj => Lib.bytesWorld_cell w 5 t j hj
  have hbl := conv_below w 5 t
  rw [h4] at hcv hB
  obtain ⟨W1, hW1⟩ : ∃ W1, W1 = Lib.bytesWorld w 5 t := ⟨_, rfl⟩
  rw [← hW1] at hcv hB hbl
  clear hW1 h4
  obtain ⟨bs, hL⟩ : ∃ bs, bs = t.data.toList := ⟨_, rfl⟩
  rw [← hL] at hB hl ⊢
  clear hL
  have HL := Lib.hid hl
  have hV := puV.eq_1 (hexGo bs 0)
  generalize puV (hexGo bs 0) = PV at *
  have HV := Lib.hid hV
  have hmv : IntKind.u64.wrap (IntKind.u64.wrap 65536 - 1) = 65535 := by
    rw [IntKind.wrap_u64, IntKind.wrap_u64]
    decide
  clear hl hV
  go_enter Tryz.func102, Tryz.ntmps102
  go_wp2
  go_loop [12, 13, 101] (fun vu vn vi => ∃ (k : Nat) (m : Int), vu = .bool false ∧ vn = .int .u64 m ∧ vi = .int .i64 k ∧ k ≤ 4 ∧ 0 ≤ m ∧ m < hexB k ∧ hexGo bs 0 = hexGo (bs.drop k) m) (fun _ _ vi => 4 - (RowKit.intOf vi).toNat)
  case atStart => exact ⟨0, 0, rfl, rfl, rfl, by omega, by omega, by decide, rfl⟩
  case round =>
    obtain ⟨k, m, rfl, rfl, rfl, hk, hm0, hm1, hrel⟩ := hrel
    by_cases hkn : k < 4
    · have hkl : k < bs.length := by have := HL.out; omega
      have hc := hB k hkn
      have hg : bs.getD k 0 = bs[k] := by rw [List.getD_eq_getElem?_getD, List.getElem?_eq_getElem hkl]; rfl
      rw [List.drop_eq_getElem_cons hkl, ← hg, hexGo] at hrel
      have hb := hexB_le k
      have hmb : m ≤ 65535 := by omega
      generalize bs.getD k 0 = x at *
      have hst := fun v : Int => hexB_step k m v hkn hm1
      have hb2 := hexB_le (k + 1)
      have hV := hexV.eq_1 x
      have hx8 := x.toNat_lt
      have hlo := lower_kinds ⟨x.toNat, hx8⟩
      simp only at hlo
      obtain ⟨LZ, hLZ⟩ : ∃ L, bits .or .u8 (x.toNat : Int) 32 = L := ⟨_, rfl⟩
      obtain ⟨z, hzx⟩ : ∃ z : Int, (x.toNat : Int) = z := ⟨_, rfl⟩
      rw [hLZ] at hlo
      rw [hzx] at hLZ hc
      have cl : ∀ wx, _ := fun wx => js_lower z LZ wx hLZ
      have hz0 : 0 ≤ z := by omega
      have hz8 : z ≤ 255 := by omega
      obtain ⟨⟨hl0, hl1⟩, hl2, hl3, hl4⟩ := hlo
      rw [show (x.toNat : Int) = z from hzx] at hl2 hl3 hV
      clear hg hkl hm1 hB hLZ
      by_cases c1 : 48 ≤ z ∧ z ≤ 57
      · obtain ⟨c1a, c1b⟩ := c1
        rw [if_pos (by omega)] at hV
        rw [if_neg (by omega), hV] at hrel
        have hnb := hst (z - 48) (by omega)
        have hn5 : m * 16 + (z - 48) ≤ 65535 := by omega
        have HR := Lib.hid hrel
        have HN := Lib.hid hnb
        have hu : (z == 95) = false := by simp; omega
        clear hrel hV hzx hl2 hl3 hl4 hst hnb cl hb2
        go_wp2
        go_round
        case rel => exact ⟨k + 1, m * 16 + (z - 48), rfl, by go_num, by go_num, by omega, by omega, HN.out, HR.out⟩
        case measure => simp [RowKit.intOf]; omega
      · rw [if_neg (by omega)] at hV
        by_cases c2 : 97 ≤ z ∧ z ≤ 102
        · obtain ⟨c2a, c2b⟩ := c2
          have c1n : ¬ z ≤ 57 := by omega
          obtain rfl : LZ = z := hl2 (by omega)
          rw [if_pos (by omega)] at hV
          rw [if_neg (by omega), hV] at hrel
          have hnb := hst (LZ - 87) (by omega)
          have hn5 : m * 16 + (LZ - 87) ≤ 65535 := by omega
          have HR := Lib.hid hrel
          have HN := Lib.hid hnb
          have hu : (LZ == 95) = false := by simp; omega
          clear hrel hV hzx hl2 hl3 hl4 hst hnb hb2 c1
          go_wp2_with (refine (cl _).mono ?_; rintro e w' ⟨rfl, rfl⟩)
          go_round
          case rel => exact ⟨k + 1, m * 16 + (LZ - 87), rfl, by go_num, by go_num, by omega, by omega, HN.out, HR.out⟩
          case measure => simp [RowKit.intOf]; omega
        · rw [if_neg (by omega)] at hV
          by_cases c3 : 65 ≤ z ∧ z ≤ 70
          · obtain ⟨c3a, c3b⟩ := c3
            have c1n : ¬ z ≤ 57 := by omega
            obtain rfl : LZ = z + 32 := hl3 (by omega)
            rw [if_pos (by omega)] at hV
            rw [if_neg (by omega), hV] at hrel
            have hnb := hst (z - 55) (by omega)
            have hn5 : m * 16 + (z - 55) ≤ 65535 := by omega
            have HR := Lib.hid hrel
            have HN := Lib.hid hnb
            have hu : (z == 95) = false := by simp; omega
            clear hrel hV hzx hl2 hl3 hl4 hst hnb hb2 c1 c2
            go_wp2_with (refine (cl _).mono ?_; rintro e w' ⟨rfl, rfl⟩)
            go_round
            case rel => exact ⟨k + 1, m * 16 + (z - 55), rfl, by go_num, by go_num, by omega, by omega, HN.out, HR.out⟩
            case measure => simp [RowKit.intOf]; omega
          · rw [if_neg (by omega)] at hV
            rw [hV, if_pos rfl] at hrel
            have hPV := HV.out
            rw [hrel, if_pos rfl] at hPV
            have HP := Lib.hid hPV
            have hlc := hl4 (by omega) (by omega)
            have C1 := Lib.hid c1
            clear hrel hV hl2 hl3 hl4 hst hb2 c1 c2 c3 hPV HV hzx
            rcases (by have := C1.out; omega : z < 48 ∨ (57 < z ∧ z = 95) ∨ (57 < z ∧ z ≠ 95)) with d | ⟨d, rfl⟩ | ⟨d, d'⟩
            · have hu : (z == 95) = false := by simp; omega
              clear C1
              rcases hlc with g | ⟨g, g'⟩ | g
              all_goals
                go_wp2_with (refine (cl _).mono ?_; rintro e w' ⟨rfl, rfl⟩)
                exact bodyPost_ret (v := .tuple #[.int .u64 0, .iface 143 (.int .i64 2)]) (by simp [results, Tryz.results102, go_sem]) rfl ⟨jretV HP.out, hbl⟩
            · clear C1
              rcases hlc with g | ⟨g, g'⟩ | g
              all_goals
                go_wp2_with (refine (cl _).mono ?_; rintro e w' ⟨rfl, rfl⟩)
                exact bodyPost_ret (v := .tuple #[.int .u64 0, .iface 143 (.int .i64 2)]) (by simp [results, Tryz.results102, go_sem]) rfl ⟨jretV HP.out, hbl⟩
            · have hu : (z == 95) = false := by simpa using d'
              clear C1 d'
              rcases hlc with g | ⟨g, g'⟩ | g
              all_goals
                go_wp2_with (refine (cl _).mono ?_; rintro e w' ⟨rfl, rfl⟩)
                exact bodyPost_ret (v := .tuple #[.int .u64 0, .iface 143 (.int .i64 2)]) (by simp [results, Tryz.results102, go_sem]) rfl ⟨jretV HP.out, hbl⟩
    · obtain rfl : k = 4 := by omega
      rw [List.drop_eq_nil_of_le (by have := HL.out; omega), hexGo] at hrel
      have hPV := HV.out
      rw [hrel, if_neg (by omega)] at hPV
      have HP := Lib.hid hPV
      clear hrel hPV HV hB
      go_wp2
      exact bodyPost_ret (v := .tuple #[.int .u64 m, .nilIface]) (by simp [results, Tryz.results102, go_sem]) rfl ⟨jretV HP.out, hbl⟩
end Go.Proofs.YtdooadalkbghgaaGreatDoor
end
section
namespace Go.Proofs.YtdooadalkbghgaaGreatDoor
open Go.RowKit
set_option maxRecDepth 100000 in
set_option maxHeartbeats 8000000 in
theorem js_ParseUint_ok (t : ByteArray) (H : Int) (w : World) (h4 : t.size = 4) (hH : hexGo t.data.toList 0 = H) (h0 : 0 ≤ H) :
    Calls Tryz.prog 116 #[.string t, .int .i64 16, .int .i64 16] w fun e w' => e = .returned (.tuple #[.int .u64 H, .nilIface]) ∧ Below w.heap.size w w' := by
  have cI : ∀ wx, _ := fun wx => js_inner t wx h4
  rw [hH] at cI
  unfold puV at cI
  rw [if_neg (by omega)] at cI
  clear hH h4
  go_enter Tryz.func116, Tryz.ntmps116
  go_wp2_with fail
  refine (cI _).mono ?_
  rintro e w1 ⟨rfl, b1⟩
  go_wp2
  exact bodyPost_ret (v := .tuple #[.int .u64 H, .nilIface]) (by simp [results, Tryz.results116, go_sem]) rfl ⟨rfl, b1⟩
set_option maxRecDepth 100000 in
set_option maxHeartbeats 8000000 in
theorem js_ParseUint_bad (t : ByteArray) (w : World) (h4 : t.size = 4) (hH : hexGo t.data.toList 0 = -1) (hT : ErrJ w) :
    Calls Tryz.prog 116 #[.string t, .int .i64 16, .int .i64 16] w fun e w' => (∃ N : Nat, e = .returned (.tuple #[.int .u64 0, .iface 146 (.pointer (some ⟨N, 0, none⟩))])) ∧ Below w.heap.size w w' := by
  have cI : ∀ wx, _ := fun wx => js_inner t wx h4
  rw [hH] at cI
  unfold puV at cI
  rw [if_pos rfl] at cI
  have cE : ∀ wx, ErrJ wx → Calls Tryz.prog 91 #[.string ⟨#[80, 97, 114, 115, 101, 85, 105, 110, 116]⟩, .string t, .int .i64 16, .int .i64 16, .iface 143 (.int .i64 2)] wx fun e w' => (∃ N : Nat, e = .returned (.iface 146 (.pointer (some ⟨N, 0, none⟩)))) ∧ Below wx.heap.size wx w' := fun wx hw => by
    obtain ⟨te, pe, hv⟩ := hw
    exact (Tryz.strconv_toError_syntax ⟨#[80, 97, 114, 115, 101, 85, 105, 110, 116]⟩ t 16 16 (.iface te pe) wx (by omega) hv (.inr ⟨te, pe, rfl⟩)).mono fun e w' ⟨N, h1, _, _, h2⟩ => ⟨⟨N, h1⟩, h2⟩
  clear hH h4
  go_enter Tryz.func116, Tryz.ntmps116
  go_wp2_with fail
  refine (cI _).mono ?_
  rintro e w1 ⟨rfl, b1⟩
  have t1 := ErrJ_below hT b1
  go_wp2_with fail
  refine (cE _ t1).mono ?_
  rintro e w2 ⟨⟨N, rfl⟩, b2⟩
  have z1 := b1.size
  go_wp2
  exact bodyPost_ret (v := .tuple #[.int .u64 0, .iface 146 (.pointer (some ⟨N, 0, none⟩))]) (by simp [results, Tryz.results116, go_sem]) rfl ⟨⟨N, rfl⟩, b1.trans (b2.mono z1)⟩
def numV (U : Int) : Value := if U = -1 then .tuple #[.int .i32 0, .bool false] else .tuple #[.int .i32 U, .bool true]
theorem pre_u (l : List UInt8) : ([92, 117] : List UInt8).isPrefixOf l = decide (2 ≤ l.length ∧ l.getD 0 0 = 92 ∧ l.getD 1 0 = 117) := by
  match l with
  | [] => rfl
  | [a] =>
    rw [List.isPrefixOf_cons_cons]
    symm
    have : ([117] : List UInt8).isPrefixOf [] = false := rfl
    rw [this, Bool.and_false]
    exact decide_eq_false (fun h => by simp at h)
  | a :: b :: r =>
    rw [List.isPrefixOf_cons_cons, List.isPrefixOf_cons_cons, show ([] : List UInt8).isPrefixOf r = true from rfl, Bool.and_true]
    rw [Bool.eq_iff_iff]
    simp only [Bool.and_eq_true, beq_iff_eq, decide_eq_true_eq, List.length_cons]
    constructor
    · rintro ⟨rfl, rfl⟩
      exact ⟨by omega, rfl, rfl⟩
    · rintro ⟨_, h1, h2⟩
      exact ⟨h1.symm, h2.symm⟩
theorem js_HasPrefix (s p : ByteArray) (b : Bool) (w : World) (h : p.data.toList.isPrefixOf s.data.toList = b) : Calls Tryz.prog 54 #[.string s, .string p] w fun e w' => e = .returned (.bool b) ∧ w = w' := by
  have := Tryz.strings_HasPrefix s p w
  rw [show Lib.hasPrefix s.data.toList p.data.toList = b from h] at this
  exact this.mono fun e w' ⟨a, b⟩ => ⟨a, b.symm⟩
set_option maxRecDepth 100000 in
set_option maxHeartbeats 16000000 in
theorem js_number (s : ByteArray) (w : World) (hs : s.size ≤ 1000000) (hT : ErrJ w) :
    Calls Tryz.prog 107 #[.string s] w fun e w' => e = .returned (numV (unitL s.data.toList)) ∧ Below w.heap.size w w' := by
  have hsl : s.data.toList.length = s.size := by simp
  have hu := unitL.eq_1 s.data.toList
  have hb := unitL_bd s.data.toList
  rw [hsl] at hu
  have hV := numV.eq_1 (unitL s.data.toList)
  by_cases h6 : 6 ≤ s.size
  · have hp := pre_u s.data.toList
    rw [hsl] at hp
    by_cases hq : s.data.toList.getD 0 0 = 92 ∧ s.data.toList.getD 1 0 = 117
    · rw [if_pos ⟨h6, hq⟩] at hu
      have cP : ∀ wx, _ := fun wx => js_HasPrefix s ⟨#[92, 117]⟩ true wx (hp.trans (decide_eq_true ⟨by omega, hq⟩))
      have hsm : ∀ wx, _ := fun wx => slice_mid s 2 6 (by omega) (by omega) (by omega) wx
      rw [show (2 : Int).toNat = 2 from rfl, show (6 : Int).toNat = 6 from rfl, eext, show 6 - 2 = 4 from rfl] at hsm
      have ht4 : (ofBytes ((s.data.toList.drop 2).take 4)).size = 4 := by rw [ofBytes_size, List.length_take, List.length_drop]; omega
      have htl : (ofBytes ((s.data.toList.drop 2).take 4)).data.toList = (s.data.toList.drop 2).take 4 := ofBytes_list _
      rw [← htl] at hu
      generalize unitL s.data.toList = U at *
      generalize ofBytes ((s.data.toList.drop 2).take 4) = t at *
      clear hp hq htl hsl
      by_cases hU : U = -1
      · rw [if_pos hU] at hV
        have cB : ∀ wx, ErrJ wx → _ := fun wx hw => js_ParseUint_bad t wx ht4 (by omega) hw
        have HV := Lib.hid hV
        have h6z : ¬ (s.size : Int) < 6 := by omega
        clear hu hV hU ht4 hb h6
        go_enter Tryz.func107, Tryz.ntmps107
        (go_wp2_with fail); (refine (cP _).mono ?_); (rintro e w' ⟨rfl, rfl⟩)
        go_wp2_with fail
        refine (cB _ hT).mono ?_
        rintro e w1 ⟨⟨N, rfl⟩, b1⟩
        go_wp2
        exact bodyPost_ret (v := .tuple #[.int .i32 0, .bool false]) (by simp [results, Tryz.results107, go_sem]) rfl ⟨jretV HV.out, b1⟩
      · rw [if_neg hU] at hV
        have cO : ∀ wx, _ := fun wx => js_ParseUint_ok t U wx ht4 hu.symm (by omega)
        have HV := Lib.hid hV
        have h6z : ¬ (s.size : Int) < 6 := by omega
        have hU0 : 0 ≤ U := by omega
        have hU1 : U ≤ 65535 := by omega
        clear hu hV hU ht4 hb h6
        go_enter Tryz.func107, Tryz.ntmps107
        (go_wp2_with fail); (refine (cP _).mono ?_); (rintro e w' ⟨rfl, rfl⟩)
        go_wp2_with fail
        refine (cO _).mono ?_
        rintro e w1 ⟨rfl, b1⟩
        go_wp2
        exact bodyPost_ret (v := .tuple #[.int .i32 U, .bool true]) (by simp [results, Tryz.results107, go_sem]) rfl ⟨jretV HV.out, b1⟩
    · rw [if_neg (fun h => hq h.2)] at hu
      rw [hu, if_pos rfl] at hV
      have cP : ∀ wx, _ := fun wx => js_HasPrefix s ⟨#[92, 117]⟩ false wx (hp.trans (decide_eq_false (fun h => hq h.2)))
      rw [hu]
      have HV := Lib.hid hV
      have h6z : ¬ (s.size : Int) < 6 := by omega
      clear hu hV hb hp hq hsl h6
      go_enter Tryz.func107, Tryz.ntmps107
      (go_wp2_with fail); (refine (cP _).mono ?_); (rintro e w' ⟨rfl, rfl⟩)
      go_wp2
      exact bodyPost_ret (v := .tuple #[.int .i32 0, .bool false]) (by simp [results, Tryz.results107, go_sem]) rfl ⟨jretV HV.out, Below.refl _ _⟩
  · rw [if_neg (fun h => h6 h.1)] at hu
    rw [hu, if_pos rfl] at hV
    rw [hu]
    have HV := Lib.hid hV
    have h6z : (s.size : Int) < 6 := by omega
    clear hu hV hb hsl h6
    go_enter Tryz.func107, Tryz.ntmps107
    go_wp2
    exact bodyPost_ret (v := .tuple #[.int .i32 0, .bool false]) (by simp [results, Tryz.results107, go_sem]) rfl ⟨jretV HV.out, Below.refl _ _⟩
end Go.Proofs.YtdooadalkbghgaaGreatDoor
end
