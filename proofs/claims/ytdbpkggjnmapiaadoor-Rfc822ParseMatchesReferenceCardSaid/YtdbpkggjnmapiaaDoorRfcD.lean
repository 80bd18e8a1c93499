/- The reference of layer 4: whole and year. -/
import Derived.Test.YtdbpkggjnmapiaaDoorDatP
namespace Go.Proofs.YtdbpkggjnmapiaaDoor
open Go.RowKit

/-- The number that a list of so many digits is, or -1. -/
def wholeZ (l : List Int) (k : Nat) : Int := if l.length = k then numL l 0 k else -1
theorem wholeZ_bd (l : List Int) (k : Nat) : -1 ≤ wholeZ l k ∧ wholeZ l k < 10 ^ k := by
  have p : (0 : Int) < 10 ^ k := Int.pow_pos (by decide)
  unfold wholeZ
  split
  · exact numL_bd l 0 k
  · omega
def yearZ (l : List Int) : Int := if 50 ≤ wholeZ l 2 then 1900 + wholeZ l 2 else if 0 ≤ wholeZ l 2 then 2000 + wholeZ l 2 else wholeZ l 4
theorem rref_whole (s : ByteArray) (v : Int) (w : World) (hv0 : 0 < v) (hv4 : v ≤ 4) (hs : s.size ≤ 140737488351232) :
    Calls Tryd.prog 36 #[.string s, .int .i64 v] w fun e w' => e = .returned (.int .i64 (wholeZ (zs s) v.toNat)) ∧ w = w' := by
  by_cases h : (s.size : Int) = v
  · have c : ∀ wx, _ := fun wx => dref_Number s 0 v wx (by omega) hv0 hv4 hs (by omega)
    have e : wholeZ (zs s) v.toNat = numL (zs s) (0 : Int).toNat v.toNat := by unfold wholeZ; rw [if_pos (by rw [zs_length]; omega)]; rfl
    rw [e]
    generalize numL (zs s) (0 : Int).toNat v.toNat = n at *
    clear e
    go_enter Tryd.func36, Tryd.ntmps36
    (go_wp2_with fail); (refine (c _).mono ?_); (rintro e w' ⟨rfl, rfl⟩)
    go_wp2
    go_ret
    exact ⟨rfl, rfl⟩
  · have e : wholeZ (zs s) v.toNat = -1 := by unfold wholeZ; rw [if_neg (by rw [zs_length]; omega)]
    rw [e]
    have hb : ((s.size : Int) != v) = true := by simpa using h
    clear e
    go_enter Tryd.func36, Tryd.ntmps36
    go_wp2
    go_ret
    exact ⟨rfl, rfl⟩
theorem rref_year (s : ByteArray) (w : World) (hs : s.size ≤ 140737488351232) :
    Calls Tryd.prog 38 #[.string s] w fun e w' => e = .returned (.int .i64 (yearZ (zs s))) ∧ w = w' := by
  have c2 : ∀ wx, _ := fun wx => rref_whole s 2 wx (by omega) (by omega) hs
  have c4 : ∀ wx, _ := fun wx => rref_whole s 4 wx (by omega) (by omega) hs
  rw [show (2 : Int).toNat = 2 from rfl] at c2
  rw [show (4 : Int).toNat = 4 from rfl] at c4
  have b2 := wholeZ_bd (zs s) 2
  have b4 := wholeZ_bd (zs s) 4
  simp only [show (10 : Int) ^ 2 = 100 from rfl] at b2
  simp only [show (10 : Int) ^ 4 = 10000 from rfl] at b4
  unfold yearZ
  generalize wholeZ (zs s) 2 = a at *
  generalize wholeZ (zs s) 4 = b at *
  by_cases h1 : 50 ≤ a
  · rw [if_pos h1]
    go_enter Tryd.func38, Tryd.ntmps38
    (go_wp2_with fail); (refine (c2 _).mono ?_); (rintro e w' ⟨rfl, rfl⟩)
    go_wp2
    go_ret
    exact ⟨rfl, rfl⟩
  · rw [if_neg h1]
    by_cases h2 : 0 ≤ a
    · rw [if_pos h2]
      go_enter Tryd.func38, Tryd.ntmps38
      (go_wp2_with fail); (refine (c2 _).mono ?_); (rintro e w' ⟨rfl, rfl⟩)
      go_wp2
      go_ret
      exact ⟨rfl, rfl⟩
    · rw [if_neg h2]
      go_enter Tryd.func38, Tryd.ntmps38
      (go_wp2_with fail); (refine (c2 _).mono ?_); (rintro e w' ⟨rfl, rfl⟩)
      (go_wp2_with fail); (refine (c4 _).mono ?_); (rintro e w' ⟨rfl, rfl⟩)
      go_wp2
      go_ret
      exact ⟨rfl, rfl⟩
end Go.Proofs.YtdbpkggjnmapiaaDoor
