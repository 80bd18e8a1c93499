/- Package rfc3339: number: the number that digits write, and whether there is nothing else. And the plain functions: groups of digits. -/
import Derived.Test.YtdbpkggjnmapiaaDoorDatP
import Derived.Test.YtdbpkggjnmapiaaDoorStrK
import Derived.Test.YtdbpkggjnmapiaaDoorKit
namespace Go.Proofs.YtdbpkggjnmapiaaDoor
open Go.RowKit

def numV (l : List Int) : Int × Bool := if l.all dgB then (numGo l.length l 0, true) else (0, false)
/-- Groups of digits of these widths with a separator between them: the numbers, and whether the list has the form. -/
def grp (sep : Int) : Bool → List Nat → List Int → List Int × Bool
  | _, [], l => ([], l.isEmpty)
  | first, k :: ws, l =>
    if first || ch l 0 == sep then
      (if (l.drop (if first then 0 else 1)).length < k then ([], false)
      else if (numV ((l.drop (if first then 0 else 1)).take k)).2 then
        ((numV ((l.drop (if first then 0 else 1)).take k)).1 :: (grp sep false ws ((l.drop (if first then 0 else 1)).drop k)).1, (grp sep false ws ((l.drop (if first then 0 else 1)).drop k)).2)
      else ([], false))
    else ([], false)
theorem zs_extract (s : ByteArray) (i j : Nat) : zs (s.extract i j) = ((zs s).drop i).take (j - i) := by
  unfold zs
  rw [← List.map_drop, ← List.map_take]
  simp only [ByteArray.data_extract, Array.toList_extract, List.extract_eq_take_drop]
theorem ret_ib {a a' : Int} {b b' : Bool} (h1 : a = a') (h2 : b = b') : Ending.returned (.tuple #[.int .i64 a, .bool b]) = .returned (.tuple #[.int .i64 a', .bool b']) := by rw [h1, h2]

set_option maxHeartbeats 2000000 in
theorem dat_number (s : ByteArray) (w : World) (hs : s.size ≤ 4) :
    Calls Tryd.prog 79 #[.string s] w fun e w' => e = .returned (.tuple #[.int .i64 (numV (zs s)).1, .bool (numV (zs s)).2]) ∧ w = w' := by
  go_enter Tryd.func79, Tryd.ntmps79
  go_wp2
  go_loop [4, 8] (fun n i => ∃ (k : Nat) (m : Int), k ≤ s.size ∧ i = .int .i64 k ∧ n = .int .i64 m ∧ 0 ≤ m ∧ m < 10 ^ k ∧ numV (zs s) = if ((zs s).drop k).all dgB then (numGo (s.size - k) ((zs s).drop k) m, true) else (0, false)) (fun _ i => s.size - (intOf i).toNat)
  case atStart => exact ⟨0, 0, by omega, rfl, rfl, by omega, by decide, by rw [Nat.sub_zero, List.drop_zero, numV, zs_length]⟩
  case round =>
    obtain ⟨k, m, hk, rfl, rfl, hm0, hm1, hrel⟩ := hrel
    by_cases hlt : k < s.size
    · have hd := drop_ch (zs s) k (by rw [zs_length]; exact hlt)
      have hp := p10 k (by omega)
      have hm2 : m ≤ 9999 := by omega
      obtain ⟨x, hx⟩ : ∃ x, s[k]'hlt = x := ⟨_, rfl⟩
      rw [hd, ch_at s _ hlt, hx, show s.size - k = (s.size - (k + 1)) + 1 by omega, List.all_cons, numGo] at hrel
      have HR := Lib.hid hrel
      have HM := Lib.hid hm1
      clear hrel hd hp hm1
      have hx8 := x.toNat_lt
      have hxb : (x.toNat : Int) ≤ 255 := by omega
      clear hx8
      have hc0 : (0 : Int) ≤ (x.toNat : Int) := by omega
      generalize hxc : (x.toNat : Int) = c at *
      rcases (by omega : c < 48 ∨ (48 ≤ c ∧ 57 < c) ∨ (48 ≤ c ∧ c ≤ 57)) with h | ⟨h, g⟩ | ⟨h, g⟩
      · have hdg : dgB c = false := decide_eq_false (by omega)
        clear hm2 HM
        go_wp2
        go_ret2
        exact ⟨ret_ib (by rw [HR.out, hdg]; rfl) (by rw [HR.out, hdg]; rfl), rfl⟩
      · have hdg : dgB c = false := decide_eq_false (by omega)
        clear hm2 HM
        go_wp2
        go_ret2
        exact ⟨ret_ib (by rw [HR.out, hdg]; rfl) (by rw [HR.out, hdg]; rfl), rfl⟩
      · have hdg : dgB c = true := decide_eq_true ⟨h, g⟩
        go_wp2
        go_round
        case rel => exact ⟨k + 1, m * 10 + (c - 48), by omega, by go_num, by go_num, by omega, by have := HM.out; rw [Int.pow_succ]; omega, by rw [HR.out, hdg]; simp⟩
        case measure => simp [intOf]; omega
    · obtain rfl : k = s.size := by omega
      rw [Nat.sub_self, List.drop_eq_nil_of_le (by rw [zs_length]; omega)] at hrel
      have hm : numV (zs s) = (m, true) := hrel
      have HN := Lib.hid hm
      clear hrel hm1 hm
      go_wp2
      go_ret2
      exact ⟨ret_ib (by rw [HN.out]) (by rw [HN.out]), rfl⟩
end Go.Proofs.YtdbpkggjnmapiaaDoor
