/- The reference of layer 4: Lower: the string in lower case. -/
import Derived.Test.YtdbpkggjnmapiaaDoorKit
import Derived.Test.YtdbpkggjnmapiaaDoorDatP
namespace Go.Proofs.YtdbpkggjnmapiaaDoor
open Go.RowKit

theorem rinfo_u8 : (Tryd.prog.info? 5).map (fun i => (i.zero, i.size, i.bytes)) = some (some (.int .u8 0), 1, 1) := by kernel_rfl
def low8 (c : UInt8) : UInt8 := if 65 ≤ c.toNat ∧ c.toNat ≤ 90 then UInt8.ofNat (c.toNat + 32) else c
theorem low8_yes (c : UInt8) (h : 65 ≤ c.toNat ∧ c.toNat ≤ 90) : (low8 c).toNat = c.toNat + 32 := by
  unfold low8; rw [if_pos h, UInt8.toNat_ofNat']; omega
theorem low8_no (c : UInt8) (h : ¬ (65 ≤ c.toNat ∧ c.toNat ≤ 90)) : low8 c = c := by unfold low8; rw [if_neg h]
theorem take_low (l : List UInt8) (k : Nat) (h : k < l.length) (x : UInt8) (hx : l[k] = x) : (l.take k).map low8 ++ [low8 x] = (l.take (k + 1)).map low8 := by
  rw [List.take_add_one, List.getElem?_eq_getElem h, hx]; simp

set_option maxRecDepth 100000 in
set_option maxHeartbeats 4000000 in
theorem rref_Lower (s : ByteArray) (w : World) (hs : s.size ≤ 70368744177664) :
    Calls Tryd.prog 62 #[.string s] w fun e w' => e = .returned (.string (ofBytes (s.data.toList.map low8))) ∧ Below w.heap.size w w' := by
  obtain ⟨i0, hi, hz0, hz1, hz2⟩ := info_parts rinfo_u8
  have hsl : s.data.toList.length = s.size := by simp
  have HSL := Lib.hid hsl
  clear hsl
  go_enter Tryd.func62, Tryd.ntmps62
  go_wp2
  go_loopw [3, 4] (fun v i wr => ∃ (k : Nat) (acc : List UInt8) (A : Option Addr) (c : Nat), k ≤ s.size ∧ i = .int .i64 k ∧ v = .slice A acc.length c ∧ wr.ownsRow w.heap.size 5 1 (.slice A acc.length c) acc.length (u8s acc) ∧ (acc = (s.data.toList.take k).map low8 ∧ acc.length = k) ∧ Below w.heap.size w wr) (fun _ i _ => s.size - (intOf i).toNat)
  case atStart => exact ⟨0, [], none, 0, by omega, rfl, rfl, World.ownsRow_nil _ _ _ _, ⟨rfl, rfl⟩, Below.refl _ _⟩
  case round =>
    obtain ⟨k, acc, A, c, hk, rfl, rfl, hown, hac, hbel⟩ := hrel
    have hz := hbel.size
    by_cases hlt : k < s.size
    · obtain ⟨x, hx⟩ : ∃ x, s[k]'hlt = x := ⟨_, rfl⟩
      have hle : acc.length ≤ k := by omega
      have R : acc ++ [low8 x] = (s.data.toList.take (k + 1)).map low8 ∧ (acc ++ [low8 x]).length = k + 1 := by
        have h1 := HSL.out
        refine ⟨?_, by rw [List.length_append, hac.2]; rfl⟩
        rw [hac.1]
        exact take_low _ _ (by omega) _ (by rw [← hx]; simp [ByteArray.getElem_eq_getElem_data])
      clear hac
      by_cases hl : 65 ≤ x.toNat ∧ x.toNat ≤ 90
      · have hy : ((low8 x).toNat : Int) = (x.toNat : Int) + 32 := by rw [low8_yes x hl]; omega
        have h1 : (65 : Int) ≤ (x.toNat : Int) := by omega
        have h2 : (x.toNat : Int) ≤ 90 := by omega
        have HY := Lib.hid hy
        clear hl hy
        generalize hxi : (x.toNat : Int) = xi at *
        go_wp2_with (at_builtin; refine wpList_append_own _ rfl (.tmp 23) (.tmp 25) 42 rfl w.heap.size 5 i0 (.int .u8 0) 1 1 Tryd.underlying42 hi hz0 hz1 hz2 rfl (by decide) (.slice A acc.length c) acc.length (u8s acc) rfl (hown.alloc _) ⟨wr.heap.size, 0, none⟩ 1 1 [.int .u8 (xi + 32)] rfl rfl (cell_one_new _ _ _) (by intro u hu; simp at hu; subst hu; rfl) (by unfold maxLen; omega) (by omega) (by simp; omega) ?_; intro v' w2 hown' hgr' _)
        rw [← HY.out] at hown'
        obtain ⟨A', c', hv', hown2⟩ := own_push hown'
        have hb2 : Below w.heap.size w w2 := (hbel.alloc hz _).grown hgr' (by simp; omega) (fun g hg => (hown.lt g hg).1)
        go_roundw
        case rel => exact ⟨k + 1, _, A', c', by omega, by go_num, hv', hown2, R, hb2⟩
        case measure => simp [intOf]; omega
      · rw [low8_no x hl] at R
        rcases (by omega : x.toNat < 65 ∨ (65 ≤ x.toNat ∧ 90 < x.toNat)) with h | ⟨h, h'⟩
        · have h1 : (x.toNat : Int) < 65 := by omega
          clear hl h
          generalize hxi : (x.toNat : Int) = xi at *
          go_wp2_with (at_builtin; refine wpList_append_own _ rfl (.tmp 23) (.tmp 25) 42 rfl w.heap.size 5 i0 (.int .u8 0) 1 1 Tryd.underlying42 hi hz0 hz1 hz2 rfl (by decide) (.slice A acc.length c) acc.length (u8s acc) rfl (hown.alloc _) ⟨wr.heap.size, 0, none⟩ 1 1 [.int .u8 xi] rfl rfl (cell_one_new _ _ _) (by intro u hu; simp at hu; subst hu; rfl) (by unfold maxLen; omega) (by omega) (by simp; omega) ?_; intro v' w2 hown' hgr' _)
          rw [← hxi] at hown'
          obtain ⟨A', c', hv', hown2⟩ := own_push hown'
          have hb2 : Below w.heap.size w w2 := (hbel.alloc hz _).grown hgr' (by simp; omega) (fun g hg => (hown.lt g hg).1)
          go_roundw
          case rel => exact ⟨k + 1, _, A', c', by omega, by go_num, hv', hown2, R, hb2⟩
          case measure => simp [intOf]; omega
        · have h1 : ¬ (x.toNat : Int) ≤ 90 := by omega
          have h2 : (65 : Int) ≤ (x.toNat : Int) := by omega
          clear hl h h'
          generalize hxi : (x.toNat : Int) = xi at *
          go_wp2_with (at_builtin; refine wpList_append_own _ rfl (.tmp 23) (.tmp 25) 42 rfl w.heap.size 5 i0 (.int .u8 0) 1 1 Tryd.underlying42 hi hz0 hz1 hz2 rfl (by decide) (.slice A acc.length c) acc.length (u8s acc) rfl (hown.alloc _) ⟨wr.heap.size, 0, none⟩ 1 1 [.int .u8 xi] rfl rfl (cell_one_new _ _ _) (by intro u hu; simp at hu; subst hu; rfl) (by unfold maxLen; omega) (by omega) (by simp; omega) ?_; intro v' w2 hown' hgr' _)
          rw [← hxi] at hown'
          obtain ⟨A', c', hv', hown2⟩ := own_push hown'
          have hb2 : Below w.heap.size w w2 := (hbel.alloc hz _).grown hgr' (by simp; omega) (fun g hg => (hown.lt g hg).1)
          go_roundw
          case rel => exact ⟨k + 1, _, A', c', by omega, by go_num, hv', hown2, R, hb2⟩
          case measure => simp [intOf]; omega
    · obtain rfl : k = s.size := by omega
      have hall : acc = s.data.toList.map low8 := by rw [hac.1, List.take_of_length_le (by rw [HSL.out]; omega)]
      have hcv := convert_own (P := Tryd.prog) Tryd.underlying42 Tryd.underlying5 Tryd.underlying9 hown
      have HA := Lib.hid hall
      clear hown hac hall
      go_wp2
      go_ret
      exact ⟨by rw [HA.out]; rfl, hbel⟩
end Go.Proofs.YtdbpkggjnmapiaaDoor
