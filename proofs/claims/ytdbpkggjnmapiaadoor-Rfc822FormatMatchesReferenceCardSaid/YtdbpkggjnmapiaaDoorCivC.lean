/- Package civil, the functions that count: Leap, DaysIn, daysBefore, yearsBefore, Days: what each returns, in every world that holds the two tables. -/
import Derived.Test.YtdbpkggjnmapiaaDoorCivQ
import Derived.Deep.QuietTactic
import Derived.BigQuiet
import Derived.WalkSmall
namespace Go.Proofs.YtdbpkggjnmapiaaDoor
open Go.RowKit

def mdN (i : Nat) : Int := #[31, 28, 31, 30, 31, 30, 31, 31, 30, 31, 30, 31].getD i 0
def cyY (i : Nat) : Int := #[400, 100, 4, 1].getD i 0
def cyD (i : Nat) : Int := #[146097, 36524, 1461, 365].getD i 0
def cyL (i : Nat) : Int := #[24, 3, 24, 3].getD i 0
/-- The world holds the days of the months and the cycles of years. -/
def CivT (w : World) : Prop := (∀ i, i < 12 → w.cell? ⟨3, i, none⟩ = some (.int .i64 (mdN i))) ∧
  ∀ i, i < 4 → w.cell? ⟨2, i * 3, none⟩ = some (.int .i64 (cyY i)) ∧ w.cell? ⟨2, i * 3 + 1, none⟩ = some (.int .i64 (cyD i)) ∧ w.cell? ⟨2, i * 3 + 2, none⟩ = some (.int .i64 (cyL i))
theorem civ_block_lt {w : World} {a : Addr} {v : Value} (hc : w.cell? a = some v) : a.block < w.heap.size := by
  rcases Nat.lt_or_ge a.block w.heap.size with h' | h'
  · exact h'
  · simp [World.cell?, Array.getElem?_eq_none h'] at hc
theorem CivT_below {w w' : World} (h : CivT w) (hb : Below w.heap.size w w') : CivT w' :=
  ⟨fun i hi => (hb.cell (civ_block_lt (h.1 i hi))).trans (h.1 i hi), fun i hi => ⟨(hb.cell (civ_block_lt (h.2 i hi).1)).trans (h.2 i hi).1, (hb.cell (civ_block_lt (h.2 i hi).2.1)).trans (h.2 i hi).2.1, (hb.cell (civ_block_lt (h.2 i hi).2.2)).trans (h.2 i hi).2.2⟩⟩

set_option maxHeartbeats 1000000 in
theorem leap_same (y : Int) (w : World) :
    Calls Tryd.prog 75 #[.int .i64 y] w fun e w' => e = .returned (.bool (lpB y)) ∧ w = w' := by
  go_enter Tryd.func75, Tryd.ntmps75
  go_wp2
  all_goals go_ret
  all_goals (refine ⟨retB ?_, rfl⟩; rw [Bool.eq_iff_iff]; simp only [lpB, decide_eq_true_eq]; simp; try omega)

set_option maxHeartbeats 2000000 in
theorem daysIn_same (y m : Int) (w : World) (hT : CivT w) :
    Calls Tryd.prog 51 #[.int .i64 y, .int .i64 m] w fun e w' => e = .returned (.int .i64 (dimI y m)) ∧ w = w' := by
  have hl := leap_same y
  by_cases hr : 1 ≤ y ∧ y ≤ 9999 ∧ 1 ≤ m ∧ m ≤ 12
  · obtain ⟨a, b, c, d⟩ := hr
    have hd := dim_eq y m ⟨a, b⟩ ⟨c, d⟩
    rw [hd]
    clear hd
    have c0 := hT.1 0 (by omega)
    have c1 := hT.1 1 (by omega)
    have c2 := hT.1 2 (by omega)
    have c3 := hT.1 3 (by omega)
    have c4 := hT.1 4 (by omega)
    have c5 := hT.1 5 (by omega)
    have c6 := hT.1 6 (by omega)
    have c7 := hT.1 7 (by omega)
    have c8 := hT.1 8 (by omega)
    have c9 := hT.1 9 (by omega)
    have c10 := hT.1 10 (by omega)
    have c11 := hT.1 11 (by omega)
    simp only [mdN] at c0 c1 c2 c3 c4 c5 c6 c7 c8 c9 c10 c11
    simp at c0 c1 c2 c3 c4 c5 c6 c7 c8 c9 c10 c11
    clear hT
    by_cases h2 : m = 2
    · subst h2
      have h01 := lp_01 y
      rcases (by omega : lpI y = 0 ∨ lpI y = 1) with hv | hv
      · rw [lpB_false ⟨a, b⟩ hv] at hl
        rw [hv]
        clear hv h01
        go_enter Tryd.func51, Tryd.ntmps51
        go_wp2_with (go_at_call 75; refine (hl _).mono ?_; rintro e w' ⟨rfl, rfl⟩)
        all_goals go_ret
        all_goals exact ⟨rfl, rfl⟩
      · rw [lpB_true ⟨a, b⟩ hv] at hl
        rw [hv]
        clear hv h01
        go_enter Tryd.func51, Tryd.ntmps51
        go_wp2_with (go_at_call 75; refine (hl _).mono ?_; rintro e w' ⟨rfl, rfl⟩)
        all_goals go_ret
        all_goals exact ⟨rfl, rfl⟩
    · clear hl
      rcases (by omega : m = 1 ∨ m = 3 ∨ m = 4 ∨ m = 5 ∨ m = 6 ∨ m = 7 ∨ m = 8 ∨ m = 9 ∨ m = 10 ∨ m = 11 ∨ m = 12) with rfl | rfl | rfl | rfl | rfl | rfl | rfl | rfl | rfl | rfl | rfl
      all_goals
        clear h2
        go_enter Tryd.func51, Tryd.ntmps51
        go_wp2
        go_ret
        exact ⟨rfl, rfl⟩
  · rw [dim_out y m hr]
    clear hl hT
    rcases (by omega : y < 1 ∨ (1 ≤ y ∧ 9999 < y) ∨ (1 ≤ y ∧ y ≤ 9999 ∧ m < 1) ∨ (1 ≤ y ∧ y ≤ 9999 ∧ 1 ≤ m ∧ 12 < m)) with h | ⟨h, g⟩ | ⟨h, g, f⟩ | ⟨h, g, f, q⟩
    all_goals
      clear hr
      go_enter Tryd.func51, Tryd.ntmps51
      go_wp2
      all_goals go_ret
      all_goals exact ⟨rfl, rfl⟩

theorem civ_Leap (y : Int) (w : World) (_h : CivT w) : Calls Tryd.prog 75 #[.int .i64 y] w fun e w' => e = .returned (.bool (lpB y)) ∧ Below w.heap.size w w' := by
  refine (leap_same y w).mono ?_
  rintro e w' ⟨rfl, rfl⟩
  exact ⟨rfl, Below.refl _ _⟩
theorem civ_DaysIn (y m : Int) (w : World) (_h : CivT w) : Calls Tryd.prog 51 #[.int .i64 y, .int .i64 m] w fun e w' => e = .returned (.int .i64 (dimI y m)) ∧ Below w.heap.size w w' := by
  refine (daysIn_same y m w _h).mono ?_
  rintro e w' ⟨rfl, rfl⟩
  exact ⟨rfl, Below.refl _ _⟩

/-- The days of a number of years from the first one on. -/
def Jd (z : Int) : Int := 365 * z + z / 4 - z / 100 + z / 400
theorem Jd_bef (y : Int) : befI y = Jd (y - 1) := rfl
theorem Jd_0 (z : Int) : z / 400 * 146097 + Jd (z % 400) = Jd z := by unfold Jd; omega
theorem Jd_1 (z : Int) (_h : 0 ≤ z ∧ z ≤ 399) : z / 100 * 36524 + Jd (z % 100) = Jd z := by unfold Jd; omega
theorem Jd_2 (z : Int) (_h : 0 ≤ z ∧ z ≤ 99) : z / 4 * 1461 + Jd (z % 4) = Jd z := by unfold Jd; omega
theorem Jd_3 (z : Int) (_h : 0 ≤ z ∧ z ≤ 3) : z * 365 = Jd z := by unfold Jd; omega
theorem Jd_bd (z : Int) (_h : 0 ≤ z ∧ z ≤ 9999) : 0 ≤ Jd z ∧ Jd z ≤ 3652059 := by unfold Jd; omega
def perY (k : Nat) : Int := #[400, 400, 100, 4, 1].getD k 1
def topY (k : Nat) : Int := #[9998, 399, 99, 3, 0].getD k 0

set_option maxHeartbeats 2000000 in
theorem civ_before (n : Int) (w : World) (hT : CivT w) (h1 : 0 ≤ n) (h2 : n ≤ 9998) :
    Calls Tryd.prog 98 #[.int .i64 n] w fun e w' => e = .returned (.int .i64 (Jd n)) ∧ Below w.heap.size w w' := by
  have hJ := Jd_bd n (by omega)
  go_enter Tryd.func98, Tryd.ntmps98
  go_wp2
  go_loopw [0, 3, 5] (fun y d i wr => ∃ k : Nat, ∃ a b : Int, k ≤ 4 ∧ i = .int .i64 k ∧ y = .int .i64 a ∧ d = .int .i64 b ∧ 0 ≤ a ∧ a ≤ topY k ∧ 0 ≤ b ∧ b + Jd a = Jd n ∧ Below w.heap.size w wr) (fun _ _ i _ => 4 - (intOf i).toNat)
  case atStart => exact ⟨0, n, 0, by omega, rfl, rfl, rfl, h1, h2, by omega, by omega, Below.refl _ _⟩
  case round =>
    obtain ⟨k, a, b, hk, rfl, rfl, rfl, ha, hat, hb, hab, hbel⟩ := hrel
    have hT' := CivT_below hT hbel
    rcases (by omega : k = 0 ∨ k = 1 ∨ k = 2 ∨ k = 3 ∨ k = 4) with rfl | rfl | rfl | rfl | rfl
    · obtain ⟨c0, c1, _⟩ := hT'.2 0 (by omega)
      simp [cyY, cyD] at c0 c1
      simp [topY] at hat
      clear hT hT'
      have hs := Jd_0 a
      have hz := Jd_bd (a % 400) (by omega)
      have q0 : a.tdiv 400 = a / 400 := by rw [Int.tdiv_eq_ediv_of_nonneg ha]
      go_wp2
      go_quiet (fail)
      go_wp2
      exact ⟨⟨1, a % 400, b + a / 400 * 146097, by omega, rfl, rfl, rfl, by omega, by simp only [topY]; simp; omega, by omega, by omega, below_drewN hbel _⟩, by simp [intOf]⟩
    · obtain ⟨c0, c1, _⟩ := hT'.2 1 (by omega)
      simp [cyY, cyD] at c0 c1
      simp [topY] at hat
      clear hT hT'
      have hs := Jd_1 a ⟨ha, hat⟩
      have hz := Jd_bd (a % 100) (by omega)
      have q0 : a.tdiv 100 = a / 100 := by rw [Int.tdiv_eq_ediv_of_nonneg ha]
      go_wp2
      go_quiet (fail)
      go_wp2
      exact ⟨⟨2, a % 100, b + a / 100 * 36524, by omega, rfl, rfl, rfl, by omega, by simp only [topY]; simp; omega, by omega, by omega, below_drewN hbel _⟩, by simp [intOf]⟩
    · obtain ⟨c0, c1, _⟩ := hT'.2 2 (by omega)
      simp [cyY, cyD] at c0 c1
      simp [topY] at hat
      clear hT hT'
      have hs := Jd_2 a ⟨ha, hat⟩
      have hz := Jd_bd (a % 4) (by omega)
      have q0 : a.tdiv 4 = a / 4 := by rw [Int.tdiv_eq_ediv_of_nonneg ha]
      go_wp2
      go_quiet (fail)
      go_wp2
      exact ⟨⟨3, a % 4, b + a / 4 * 1461, by omega, rfl, rfl, rfl, by omega, by simp only [topY]; simp; omega, by omega, by omega, below_drewN hbel _⟩, by simp [intOf]⟩
    · obtain ⟨c0, c1, _⟩ := hT'.2 3 (by omega)
      simp [cyY, cyD] at c0 c1
      simp [topY] at hat
      clear hT hT'
      have hs := Jd_3 a ⟨ha, hat⟩
      have hz : Jd 0 = 0 := by decide
      have q0 : a.tdiv 1 = a := by simp
      go_wp2
      go_quiet (fail)
      go_wp2
      exact ⟨⟨4, 0, Jd n, by omega, rfl, rfl, rfl, by omega, by simp [topY], hJ.1, by omega, below_drewN hbel _⟩, by simp [intOf]⟩
    · simp [topY] at hat
      obtain rfl : a = 0 := by omega
      have hz : Jd 0 = 0 := by decide
      obtain rfl : b = Jd n := by omega
      clear hT hT' hab
      go_wp2
      go_ret
      exact ⟨rfl, hbel⟩

/-- The last day of a leap year is its 366th. -/
def lastOk (y r : Int) : Prop := r ≤ 364 ∨ (r = 365 ∧ (((y + 1) % 4 = 0 ∧ (y + 1) % 100 ≠ 0) ∨ (y + 1) % 400 = 0))
theorem yb_0 (z y r : Int) (_h : 0 ≤ z ∧ z ≤ 9998) (_hr : 0 ≤ r) (_hy : (y - z) % 400 = 0) (_hl : lastOk y r) :
    (Jd z + r) / 146097 = z / 400 ∧ z / 400 ≤ 24 ∧ 0 ≤ z / 400 := by unfold Jd; unfold lastOk at _hl; omega
theorem yb_1 (z y r : Int) (_h : 0 ≤ z ∧ z ≤ 399) (_hr : 0 ≤ r) (_hy : (y - z) % 400 = 0) (_hl : lastOk y r) :
    ((Jd z + r) / 36524 = z / 100 ∧ z / 100 ≤ 3) ∨ ((Jd z + r) / 36524 = 4 ∧ z / 100 = 3) := by
  have h4 : z / 400 = 0 := by omega
  unfold Jd
  rw [h4]
  rcases _hl with hl | ⟨rfl, hl⟩
  · omega
  · by_cases h9 : z % 100 = 99
    · rcases (by omega : z = 99 ∨ z = 199 ∨ z = 299 ∨ z = 399) with rfl | rfl | rfl | rfl
      all_goals omega
    · omega
theorem yb_2 (z y r : Int) (_h : 0 ≤ z ∧ z ≤ 99) (_hr : 0 ≤ r) (_hy : (y - z) % 100 = 0) (_hl : lastOk y r) :
    (Jd z + r) / 1461 = z / 4 ∧ z / 4 ≤ 24 := by unfold Jd; unfold lastOk at _hl; omega
theorem yb_3 (z y r : Int) (_h : 0 ≤ z ∧ z ≤ 3) (_hr : 0 ≤ r) (_hy : (y - z) % 4 = 0) (_hl : lastOk y r) :
    ((Jd z + r) / 365 = z ∧ z ≤ 3) ∨ ((Jd z + r) / 365 = 4 ∧ z = 3) := by unfold Jd; unfold lastOk at _hl; omega

theorem lastOk_le {y r : Int} (h : lastOk y r) : r ≤ 365 := by unfold lastOk at h; omega

set_option maxHeartbeats 4000000 in
theorem civ_yearsBefore (y r : Int) (w : World) (hT : CivT w) (h1 : 0 ≤ y) (h2 : y ≤ 9998) (hr : 0 ≤ r) (hl : lastOk y r) :
    Calls Tryd.prog 50 #[.int .i64 (Jd y + r)] w fun e w' => e = .returned (.tuple #[.int .i64 y, .int .i64 r]) ∧ Below w.heap.size w w' := by
  go_enter Tryd.func50, Tryd.ntmps50
  go_wp2
  go_loopw [0, 4, 7] (fun a b i wr => ∃ k : Nat, ∃ z : Int, k ≤ 4 ∧ i = .int .i64 k ∧ a = .int .i64 (Jd z + r) ∧ b = .int .i64 (y - z) ∧ 0 ≤ z ∧ z ≤ topY k ∧ (y - z) % perY k = 0 ∧ z ≤ y ∧ Below w.heap.size w wr) (fun _ _ i _ => 4 - (intOf i).toNat)
  case atStart => exact ⟨0, y, by omega, rfl, rfl, by rw [Int.sub_self], h1, h2, by rw [Int.sub_self]; rfl, by omega, Below.refl _ _⟩
  case round =>
    obtain ⟨k, z, hk, rfl, rfl, rfl, hz, hzt, hzp, hzy, hbel⟩ := hrel
    have hT' := CivT_below hT hbel
    rcases (by omega : k = 0 ∨ k = 1 ∨ k = 2 ∨ k = 3 ∨ k = 4) with rfl | rfl | rfl | rfl | rfl
    · obtain ⟨c0, c1, c2⟩ := hT'.2 0 (by omega)
      simp [cyY, cyD, cyL] at c0 c1 c2
      simp [topY, perY] at hzt hzp
      have hz1 := Jd_bd z (by omega)
      have hq := yb_0 z y r ⟨hz, hzt⟩ hr (by omega) hl
      have hr5 : r ≤ 365 := lastOk_le hl
      clear hT hT'
      have q0 : (Jd z + r).tdiv 146097 = z / 400 := by rw [Int.tdiv_eq_ediv_of_nonneg (by omega)]; omega
      have hs := Jd_0 z
      have hz2 := Jd_bd (z % 400) (by omega)
      go_wp2
      go_quiet (fail)
      go_wp2
      exact ⟨⟨1, z % 400, by omega, rfl, congrArg _ (by omega), congrArg _ (by omega), by omega, by simp only [topY]; simp; omega, by simp only [perY]; simp; omega, by omega, below_drewN hbel _⟩, by simp [intOf]⟩
    · obtain ⟨c0, c1, c2⟩ := hT'.2 1 (by omega)
      simp [cyY, cyD, cyL] at c0 c1 c2
      simp [topY, perY] at hzt hzp
      have hz1 := Jd_bd z (by omega)
      have hq := yb_1 z y r ⟨hz, hzt⟩ hr (by omega) hl
      have hr5 : r ≤ 365 := lastOk_le hl
      clear hT hT'
      have hs := Jd_1 z ⟨hz, hzt⟩
      have hz2 := Jd_bd (z % 100) (by omega)
      rcases hq with hq | hq
      · have q0 : (Jd z + r).tdiv 36524 = z / 100 := by rw [Int.tdiv_eq_ediv_of_nonneg (by omega)]; omega
        go_wp2
        go_quiet (fail)
        go_wp2
        exact ⟨⟨2, z % 100, by omega, rfl, congrArg _ (by omega), congrArg _ (by omega), by omega, by simp only [topY]; simp; omega, by simp only [perY]; simp; omega, by omega, below_drewN hbel _⟩, by simp [intOf]⟩
      · have q0 : (Jd z + r).tdiv 36524 = 4 := by rw [Int.tdiv_eq_ediv_of_nonneg (by omega)]; omega
        go_wp2
        go_quiet (fail)
        go_wp2
        exact ⟨⟨2, z % 100, by omega, rfl, congrArg _ (by omega), congrArg _ (by omega), by omega, by simp only [topY]; simp; omega, by simp only [perY]; simp; omega, by omega, below_drewN hbel _⟩, by simp [intOf]⟩
    · obtain ⟨c0, c1, c2⟩ := hT'.2 2 (by omega)
      simp [cyY, cyD, cyL] at c0 c1 c2
      simp [topY, perY] at hzt hzp
      have hz1 := Jd_bd z (by omega)
      have hq := yb_2 z y r ⟨hz, hzt⟩ hr (by omega) hl
      have hr5 : r ≤ 365 := lastOk_le hl
      clear hT hT'
      have q0 : (Jd z + r).tdiv 1461 = z / 4 := by rw [Int.tdiv_eq_ediv_of_nonneg (by omega)]; omega
      have hs := Jd_2 z ⟨hz, hzt⟩
      have hz2 := Jd_bd (z % 4) (by omega)
      go_wp2
      go_quiet (fail)
      go_wp2
      exact ⟨⟨3, z % 4, by omega, rfl, congrArg _ (by omega), congrArg _ (by omega), by omega, by simp only [topY]; simp; omega, by simp only [perY]; simp; omega, by omega, below_drewN hbel _⟩, by simp [intOf]⟩
    · obtain ⟨c0, c1, c2⟩ := hT'.2 3 (by omega)
      simp [cyY, cyD, cyL] at c0 c1 c2
      simp [topY, perY] at hzt hzp
      have hz1 := Jd_bd z (by omega)
      have hq := yb_3 z y r ⟨hz, hzt⟩ hr (by omega) hl
      have hr5 : r ≤ 365 := lastOk_le hl
      clear hT hT'
      have hs := Jd_3 z ⟨hz, hzt⟩
      have hz2 : Jd 0 = 0 := by decide
      rcases hq with hq | hq
      · have q0 : (Jd z + r).tdiv 365 = z := by rw [Int.tdiv_eq_ediv_of_nonneg (by omega)]; omega
        go_wp2
        go_quiet (fail)
        go_wp2
        exact ⟨⟨4, 0, by omega, rfl, congrArg _ (by omega), congrArg _ (by omega), by omega, by simp [topY], by simp [perY], by omega, below_drewN hbel _⟩, by simp [intOf]⟩
      · have q0 : (Jd z + r).tdiv 365 = 4 := by rw [Int.tdiv_eq_ediv_of_nonneg (by omega)]; omega
        have hz3 : 3 ≤ z := by omega
        clear hq
        go_wp2
        go_quiet (fail)
        go_wp2
        exact ⟨⟨4, 0, by omega, rfl, congrArg _ (by omega), congrArg _ (by omega), by omega, by simp [topY], by simp [perY], by omega, below_drewN hbel _⟩, by simp [intOf]⟩
    · simp [topY] at hzt
      obtain rfl : z = 0 := by omega
      have hz0 : Jd 0 = 0 := by decide
      have hz1 : Jd 0 + r = r := by omega
      rw [hz1]
      clear hT hT' hzp hz0 hz1
      go_wp2
      refine bodyPost_ret (v := .tuple #[.int .i64 (y - 0), .int .i64 r]) (by simp [results, Tryd.results50, go_sem]) rfl ⟨by rw [Int.sub_zero], hbel⟩

theorem lastOk_of {y r : Int} (_h : 1 ≤ y) (hr : r ≤ 364 + lpI y) : lastOk (y - 1) r := by
  unfold lastOk; rw [Int.sub_add_cancel]
  unfold lpI at hr
  split at hr <;> omega

set_option maxHeartbeats 2000000 in
theorem civ_Days (y m d : Int) (w : World) (hT : CivT w) : Calls Tryd.prog 81 #[.int .i64 y, .int .i64 m, .int .i64 d] w fun e w' => e = .returned (.tuple #[.int .i64 (daysV y m d).1, .int .i64 (daysV y m d).2]) ∧ Below w.heap.size w w' := by
  have hdim := daysIn_same y m w hT
  unfold daysV
  rcases hok : okB y m d with _ | _
  · simp only [Bool.false_eq_true, if_false]
    have hno : d < 1 ∨ (1 ≤ d ∧ dimI y m < d) := by
      unfold okB at hok
      have := of_decide_eq_false hok
      omega
    generalize dimI y m = D at hdim hno
    clear hok
    rcases hno with h | ⟨h, g⟩
    all_goals
      go_enter Tryd.func81, Tryd.ntmps81
      go_wp2_with (go_at_call 51; refine (hdim).mono ?_; rintro e w' ⟨rfl, rfl⟩)
      all_goals go_ret2
      all_goals exact ⟨rfl, Below.refl _ _⟩
  · simp only [if_true]
    have hv := (okB_iff y m d).1 hok
    have hn := num_bd y m d hv
    obtain ⟨a, b, c, f, g, h⟩ := hv
    have hbb := bef_bd y (by omega)
    have hd31 := dim_bd y m
    have hJ := Jd_bef y
    clear hok
    generalize hD : dimI y m = D at hdim h hd31
    go_enter Tryd.func81, Tryd.ntmps81
    go_wp2_with (go_at_call 51; refine (hdim).mono ?_; rintro e w' ⟨rfl, rfl⟩)
    refine (civ_before (y - 1) _ hT (by omega) (by omega)).mono ?_
    rintro e w1 ⟨rfl, hb1⟩
    rw [← hJ]
    clear hJ
    have hT1 := CivT_below hT hb1
    go_wp2
    go_loop [8, 28] (fun n i => ∃ k : Int, 1 ≤ k ∧ k ≤ m ∧ i = .int .i64 (k - 1) ∧ n = .int .i64 (befI y - 719162 + cumI y k + (d - 1))) (fun _ i => (m - intOf i).toNat)
    case atStart => exact ⟨1, by omega, c, rfl, by rw [cum_one]; exact congrArg _ (by omega)⟩
    case round =>
      obtain ⟨k, hk1, hk2, rfl, rfl⟩ := hrel
      have hcb := cum_bd y k (by omega)
      by_cases hlt : k < m
      · have hcs := cum_succ y k ⟨a, b⟩ (by omega)
        have hdk := daysIn_same y k w1 hT1
        have hk31 := dim_bd y k
        have hkk : k - 1 + 1 = k := by omega
        have HS := Lib.hid hcs
        clear hcs
        go_wp2_with (go_at_call 51; (try rw [hkk]); refine hdk.mono ?_; rintro e w' ⟨rfl, rfl⟩)
        go_round
        case rel => exact ⟨k + 1, by omega, by omega, by go_num, by rw [HS.out]; go_num⟩
        case measure => simp [intOf]; omega
      · obtain rfl : k = m := by omega
        have hnum : numI y k d = befI y - 719162 + cumI y k + (d - 1) := rfl
        have HN := Lib.hid hnum
        clear hnum
        go_wp2
        go_ret2
        exact ⟨by rw [HN.out]; rfl, hb1⟩
end Go.Proofs.YtdbpkggjnmapiaaDoor
