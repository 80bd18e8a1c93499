/- Packed from the texts EscI. -/
import Derived.Test.YtppmoeidgefkpaaGreatDoorWEscH
set_option maxRecDepth 100000
namespace Go.Proofs.YtppmoeidgefkpaaGreatDoor
section
open Go.RowKit
theorem retR {a b c : Int} {p : Int × Int × Int} (h : p = (a, b, c)) : Ending.returned (.tuple #[.int .i32 a, .int .i64 b, .int .i64 c]) = .returned (.tuple #[.int .i32 p.1, .int .i64 p.2.1, .int .i64 p.2.2]) := by subst h; rfl
set_option maxHeartbeats 16000000 in
theorem esc_Reference (s : ByteArray) (a : Int) (w : World) (hs : s.size ≤ 1000000) (hT : EscT w) : Calls Tryz.prog 92 #[.string s, .int .i64 a] w fun e w' => e = .returned (.tuple #[.int .i32 (refP s.data.toList a).1, .int .i64 (refP s.data.toList a).2.1, .int .i64 (refP s.data.toList a).2.2]) ∧ Below w.heap.size w w' := by
 have hsl : s.data.toList.length = s.size := by simp
 by_cases hin : 0 ≤ a ∧ a < (s.size : Int)
 ·obtain ⟨i, rfl⟩ := Int.eq_ofNat_of_zero_le hin.1
  have hi0 : ¬ (i : Int) < 0 := by omega
  have hi1 : ¬ (s.size : Int) ≤ (i : Int) := by omega
  have hiz : (i : Int) < (s.size : Int) := by omega
  have hi6 : (i : Int) ≤ 1000000 := by omega
  have href := refC_ref s.data.toList i (by omega)
  have hsf : ∀ wx, _ := fun wx => slice_from s (i : Int) (by omega) (by omega) wx
  rw [Int.toNat_natCast, eext, List.take_of_length_le (by rw [List.length_drop]; omega)] at hsf
  have hD : (oB (s.data.toList.drop i)).size = s.size - i := by rw [oBz, List.length_drop, hsl]
  have cN : ∀ wx, EscT wx → _ := fun wx => esc_named (oB (s.data.toList.drop i)) wx
  have cM : ∀ wx, _ := fun wx => esc_numeric (oB (s.data.toList.drop i)) wx (by omega)
  rw [oBl] at cN cM
  have hnb := names_bd (s.data.toList.drop i)
  have hmb := numericC_bd (s.data.toList.drop i)
  rw [List.length_drop, hsl] at hnb hmb
  unfold refC at href
  generalize nameIn (s.data.toList.drop i) refNames = nm at *
  generalize numericC (s.data.toList.drop i) = mm at *
  obtain ⟨n1, n2⟩ := nm
  obtain ⟨m1, m2⟩ := mm
  simp only at cN cM hnb hmb href
  obtain ⟨hn0, hn1, hn2⟩ := hnb
  obtain ⟨hm0, hm1, hm2⟩ := hmb
  have hn2z : (n2 : Int) ≤ 1000000 := by omega
  have hm2z : (m2 : Int) ≤ 1000000 := by omega
  clear hD hsl hin
  generalize oB (s.data.toList.drop i) = D at *
  rcases Nat.eq_zero_or_pos n2 with h2 | h2
  ·subst h2
   rw [if_pos rfl] at href
   simp only at href
   rcases Nat.eq_zero_or_pos m2 with g2 | g2
   ·subst g2
    rw [if_pos rfl] at href
    have HR := Lib.hid href
    clear href
    go_enter Tryz.func92, Tryz.ntmps92
    (go_wp2_with fail); (refine (cN _ hT).mono ?_); (rintro e w1 ⟨rfl, b1⟩)
    go_wp2_with fail
    refine (cM _).mono ?_
    rintro e w2 ⟨rfl, b2⟩
    go_wp2
    have s1 := b1.size
    exact bodyPost_ret (v := .tuple #[.int .i32 0, .int .i64 0, .int .i64 12]) (by simp [results, Tryz.results92, go_sem]) rfl ⟨retR HR.out, b1.trans (b2.mono s1)⟩
   ·rw [if_neg (by omega)] at href
    have hmz : ((m2 : Int) == 0) = false := by simp; omega
    have HR := Lib.hid href
    clear href
    go_enter Tryz.func92, Tryz.ntmps92
    (go_wp2_with fail); (refine (cN _ hT).mono ?_); (rintro e w1 ⟨rfl, b1⟩)
    go_wp2_with fail
    refine (cM _).mono ?_
    rintro e w2 ⟨rfl, b2⟩
    go_wp2
    have s1 := b1.size
    exact bodyPost_ret (v := .tuple #[.int .i32 m1, .int .i64 ((i : Int) + (m2 : Int)), .int .i64 0]) (by simp [results, Tryz.results92, go_sem]) rfl ⟨retR (by rw [HR.out]; simp), b1.trans (b2.mono s1)⟩
  ·have hne : ¬ n2 = 0 := by omega
   rw [if_neg hne] at href
   simp only at href
   rw [if_neg hne] at href
   have hnz : ((n2 : Int) == 0) = false := by simp; omega
   have HR := Lib.hid href
   clear href hne cM
   go_enter Tryz.func92, Tryz.ntmps92
   (go_wp2_with fail); (refine (cN _ hT).mono ?_); (rintro e w1 ⟨rfl, b1⟩)
   go_wp2
   exact bodyPost_ret (v := .tuple #[.int .i32 n1, .int .i64 ((i : Int) + (n2 : Int)), .int .i64 0]) (by simp [results, Tryz.results92, go_sem]) rfl ⟨retR (by rw [HR.out]; simp), b1⟩
 ·have hP0 : refP s.data.toList a = (0, 0, 12) := by unfold refP; rw [if_neg (fun h => hin ⟨h.1, by rw [hsl] at h; exact h.2.1⟩)]
  have HQ := Lib.hid hP0
  have hor : a < 0 ∨ (0 ≤ a ∧ (s.size : Int) ≤ a) := by omega
  clear hP0 hsl hin
  rcases hor with h | ⟨h, g⟩
  all_goals
   go_enter Tryz.func92, Tryz.ntmps92
   go_wp2
   exact bodyPost_ret (v := .tuple #[.int .i32 0, .int .i64 0, .int .i64 12]) (by simp [results, Tryz.results92, go_sem]) rfl ⟨retR HQ.out, Below.refl _ _⟩
end
end Go.Proofs.YtppmoeidgefkpaaGreatDoor
