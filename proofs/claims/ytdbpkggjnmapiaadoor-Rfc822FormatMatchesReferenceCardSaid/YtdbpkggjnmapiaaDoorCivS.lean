/- Plain mathematics of the calendar for layer 2: years, months, day numbers; every day number in the range belongs to exactly one date. -/
import Derived.WalkKit
namespace Go.Proofs.YtdbpkggjnmapiaaDoor

def lpB (y : Int) : Bool := decide (1 ≤ y ∧ y ≤ 9999 ∧ ((y % 4 = 0 ∧ y % 100 ≠ 0) ∨ y % 400 = 0))
def lpI (y : Int) : Int := if (y % 4 = 0 ∧ y % 100 ≠ 0) ∨ y % 400 = 0 then 1 else 0
def dimI (y m : Int) : Int :=
  if y < 1 ∨ 9999 < y ∨ m < 1 ∨ 12 < m then 0
  else if m = 2 then 28 + lpI y
  else if m = 4 ∨ m = 6 ∨ m = 9 ∨ m = 11 then 30 else 31
/-- The days from 0001-01-01 to the first day of a year. -/
def befI (y : Int) : Int := 365 * (y - 1) + (y - 1) / 4 - (y - 1) / 100 + (y - 1) / 400
/-- The days of a year before a month. -/
def cumT (m : Int) : Int :=
  if m ≤ 1 then 0 else if m = 2 then 31 else if m = 3 then 59 else if m = 4 then 90 else if m = 5 then 120 else if m = 6 then 151 else if m = 7 then 181 else if m = 8 then 212 else if m = 9 then 243 else if m = 10 then 273 else if m = 11 then 304 else if m = 12 then 334 else 365
def cumI (y m : Int) : Int := cumT m + if 3 ≤ m then lpI y else 0
def okDate (y m d : Int) : Prop := 1 ≤ y ∧ y ≤ 9999 ∧ 1 ≤ m ∧ m ≤ 12 ∧ 1 ≤ d ∧ d ≤ dimI y m
def okB (y m d : Int) : Bool := decide (1 ≤ d ∧ d ≤ dimI y m)
def numI (y m d : Int) : Int := befI y - 719162 + cumI y m + (d - 1)

theorem lp_01 (y : Int) : 0 ≤ lpI y ∧ lpI y ≤ 1 := by unfold lpI; split <;> omega
theorem lpB_eq (y : Int) (h : 1 ≤ y ∧ y ≤ 9999) : lpB y = decide (lpI y = 1) := by
  by_cases hp : (y % 4 = 0 ∧ y % 100 ≠ 0) ∨ y % 400 = 0
  · rw [lpB, lpI, if_pos hp, decide_eq_true ⟨h.1, h.2, hp⟩]; rfl
  · rw [lpB, lpI, if_neg hp, decide_eq_false (fun e => hp e.2.2)]; rfl
theorem lpB_true {y : Int} (h : 1 ≤ y ∧ y ≤ 9999) (hl : lpI y = 1) : lpB y = true := by rw [lpB_eq y h, hl]; rfl
theorem lpB_false {y : Int} (h : 1 ≤ y ∧ y ≤ 9999) (hl : lpI y = 0) : lpB y = false := by rw [lpB_eq y h, hl]; rfl
theorem dim_bd (y m : Int) : 0 ≤ dimI y m ∧ dimI y m ≤ 31 := by
  have := lp_01 y; unfold dimI; repeat' split
  all_goals omega
theorem dim_lo (y m : Int) (_h : 1 ≤ y ∧ y ≤ 9999 ∧ 1 ≤ m ∧ m ≤ 12) : 28 ≤ dimI y m := by
  have := lp_01 y; unfold dimI; repeat' split
  all_goals omega
theorem dim_out (y m : Int) (h : ¬ (1 ≤ y ∧ y ≤ 9999 ∧ 1 ≤ m ∧ m ≤ 12)) : dimI y m = 0 := by unfold dimI; rw [if_pos (by omega)]
theorem okB_iff (y m d : Int) : okB y m d = true ↔ okDate y m d := by
  unfold okB okDate
  rw [decide_eq_true_eq]
  constructor
  · intro h
    by_cases hr : 1 ≤ y ∧ y ≤ 9999 ∧ 1 ≤ m ∧ m ≤ 12
    · exact ⟨hr.1, hr.2.1, hr.2.2.1, hr.2.2.2, h.1, h.2⟩
    · rw [dim_out y m hr] at h; omega
  · intro h; exact ⟨h.2.2.2.2.1, h.2.2.2.2.2⟩
theorem bef_succ (y : Int) (_h : 1 ≤ y) : befI (y + 1) = befI y + 365 + lpI y := by
  unfold befI lpI; split <;> omega
theorem bef_mono (a b : Int) (h : a ≤ b) : befI a ≤ befI b := by unfold befI; have := h; omega
theorem bef_bd (y : Int) (h : 1 ≤ y ∧ y ≤ 10000) : 0 ≤ befI y ∧ befI y ≤ 3652059 := by unfold befI; have := h; omega
theorem bef_one : befI 1 = 0 := by decide
theorem cum_one (y : Int) : cumI y 1 = 0 := by unfold cumI cumT; simp
def dimT (m : Int) : Int := if m = 2 then 28 else if m = 4 ∨ m = 6 ∨ m = 9 ∨ m = 11 then 30 else 31
theorem dim_eq (y m : Int) (hy : 1 ≤ y ∧ y ≤ 9999) (h : 1 ≤ m ∧ m ≤ 12) : dimI y m = dimT m + if m = 2 then lpI y else 0 := by
  unfold dimI dimT
  rw [if_neg (by omega)]
  by_cases h2 : m = 2
  · rw [if_pos h2, if_pos h2, if_pos h2]
  · rw [if_neg h2, if_neg h2, if_neg h2, Int.add_zero]
theorem cumT_succ (m : Int) (h : 1 ≤ m ∧ m ≤ 12) : cumT (m + 1) = cumT m + dimT m := by
  rcases (by omega : m = 1 ∨ m = 2 ∨ m = 3 ∨ m = 4 ∨ m = 5 ∨ m = 6 ∨ m = 7 ∨ m = 8 ∨ m = 9 ∨ m = 10 ∨ m = 11 ∨ m = 12) with rfl | rfl | rfl | rfl | rfl | rfl | rfl | rfl | rfl | rfl | rfl | rfl
  all_goals decide
theorem cum_succ (y m : Int) (hy : 1 ≤ y ∧ y ≤ 9999) (h : 1 ≤ m ∧ m ≤ 12) : cumI y (m + 1) = cumI y m + dimI y m := by
  have h1 := cumT_succ m h
  rw [dim_eq y m hy h]
  unfold cumI
  rw [h1]
  by_cases h2 : m = 2
  · rw [if_pos h2, if_pos (by omega), if_neg (by omega)]; omega
  · rw [if_neg h2]
    by_cases h3 : 3 ≤ m
    · rw [if_pos h3, if_pos (by omega)]; omega
    · rw [if_neg h3, if_neg (by omega)]; omega
theorem cumT_bd (m : Int) : 0 ≤ cumT m ∧ cumT m ≤ 365 := by
  by_cases h : 1 ≤ m ∧ m ≤ 12
  · rcases (by omega : m = 1 ∨ m = 2 ∨ m = 3 ∨ m = 4 ∨ m = 5 ∨ m = 6 ∨ m = 7 ∨ m = 8 ∨ m = 9 ∨ m = 10 ∨ m = 11 ∨ m = 12) with rfl | rfl | rfl | rfl | rfl | rfl | rfl | rfl | rfl | rfl | rfl | rfl
    all_goals decide
  · by_cases h1 : m ≤ 1
    · unfold cumT; rw [if_pos h1]; omega
    · unfold cumT
      rw [if_neg h1, if_neg (by omega), if_neg (by omega), if_neg (by omega), if_neg (by omega), if_neg (by omega), if_neg (by omega), if_neg (by omega), if_neg (by omega), if_neg (by omega), if_neg (by omega), if_neg (by omega)]; omega
theorem cum_bd (y m : Int) (_h : 1 ≤ m ∧ m ≤ 13) : 0 ≤ cumI y m ∧ cumI y m ≤ 366 := by
  have h0 := lp_01 y
  have h1 := cumT_bd m
  unfold cumI
  split <;> omega
theorem cum_13 (y : Int) : cumI y 13 = 365 + lpI y := by unfold cumI cumT; simp
/-- A month that lies before another one ends before that one begins. -/
theorem cum_le (y m k : Int) (hy : 1 ≤ y ∧ y ≤ 9999) (h1 : 1 ≤ m) (h2 : m < k) (h3 : k ≤ 13) : cumI y m + dimI y m ≤ cumI y k := by
  rw [← cum_succ y m hy (by omega)]
  have hl := lp_01 y
  have e : ∀ j : Int, 1 ≤ j → j ≤ 12 → cumI y j ≤ cumI y (j + 1) := fun j a b => by
    rw [cum_succ y j hy ⟨a, b⟩]; have := dim_bd y j; omega
  obtain ⟨n, hn⟩ : ∃ n : Nat, k = m + 1 + n := ⟨(k - (m + 1)).toNat, by omega⟩
  subst hn
  clear h2
  induction n with
  | zero => simp
  | succ n ih =>
    have h := e (m + 1 + n) (by omega) (by omega)
    have := ih (by omega)
    have e2 : m + 1 + ((n + 1 : Nat) : Int) = m + 1 + (n : Int) + 1 := by omega
    rw [e2]; omega
theorem num_bd (y m d : Int) (h : okDate y m d) : befI y ≤ numI y m d + 719162 ∧ numI y m d + 719162 < befI (y + 1) ∧ -719162 ≤ numI y m d ∧ numI y m d ≤ 2932896 := by
  obtain ⟨h1, h2, h3, h4, h5, h6⟩ := h
  have hc := cum_le y m 13 ⟨h1, h2⟩ h3 (by omega) (by omega)
  have h0 := cum_bd y m (by omega)
  have hs := bef_succ y h1
  have hb := bef_bd y (by omega)
  have hb2 := bef_bd (y + 1) (by omega)
  rw [cum_13] at hc
  unfold numI
  omega
/-- Every day number in the range is that of a date. -/
theorem date_exists (n : Int) (h1 : -719162 ≤ n) (h2 : n ≤ 2932896) : ∃ y m d, okDate y m d ∧ numI y m d = n := by
  -- the year
  have hy : ∀ k : Nat, ∀ y : Int, 1 ≤ y → y ≤ 9999 → befI y ≤ n + 719162 → 9999 - y = (k : Int) → ∃ z, 1 ≤ z ∧ z ≤ 9999 ∧ befI z ≤ n + 719162 ∧ n + 719162 < befI (z + 1) := by
    intro k
    induction k with
    | zero =>
      intro y a b c e
      obtain rfl : y = 9999 := by omega
      exact ⟨9999, by omega, by omega, c, by have : befI (9999 + 1) = 3652059 := by decide
                                             omega⟩
    | succ k ih =>
      intro y a b c e
      by_cases hn : n + 719162 < befI (y + 1)
      · exact ⟨y, a, b, c, hn⟩
      · exact ih (y + 1) (by omega) (by omega) (by omega) (by omega)
  obtain ⟨y, a, b, c, e⟩ := hy 9998 1 (by omega) (by omega) (by rw [bef_one]; omega) (by omega)
  have hs := bef_succ y a
  have hm : ∀ k : Nat, ∀ m : Int, 1 ≤ m → m ≤ 12 → cumI y m ≤ n + 719162 - befI y → 12 - m = (k : Int) → ∃ z, 1 ≤ z ∧ z ≤ 12 ∧ cumI y z ≤ n + 719162 - befI y ∧ n + 719162 - befI y < cumI y (z + 1) := by
    intro k
    induction k with
    | zero =>
      intro m a' b' c' e'
      obtain rfl : m = 12 := by omega
      exact ⟨12, by omega, by omega, c', by rw [show (12 : Int) + 1 = 13 from rfl, cum_13]; omega⟩
    | succ k ih =>
      intro m a' b' c' e'
      by_cases hn : n + 719162 - befI y < cumI y (m + 1)
      · exact ⟨m, a', b', c', hn⟩
      · exact ih (m + 1) (by omega) (by omega) (by omega) (by omega)
  obtain ⟨m, a', b', c', e'⟩ := hm 11 1 (by omega) (by omega) (by rw [cum_one]; omega) (by omega)
  rw [cum_succ y m ⟨a, b⟩ ⟨a', b'⟩] at e'
  exact ⟨y, m, n + 719162 - befI y - cumI y m + 1, ⟨a, b, a', b', by omega, by omega⟩, by unfold numI; omega⟩
/-- Two dates with one day number are the same. -/
theorem date_unique {y m d y' m' d' : Int} (h : okDate y m d) (h' : okDate y' m' d') (he : numI y m d = numI y' m' d') : y = y' ∧ m = m' ∧ d = d' := by
  have b := num_bd y m d h
  have b' := num_bd y' m' d' h'
  have ey : y = y' := by
    rcases Int.lt_trichotomy y y' with hlt | heq | hgt
    · have := bef_mono (y + 1) y' (by omega); omega
    · exact heq
    · have := bef_mono (y' + 1) y (by omega); omega
  subst ey
  obtain ⟨h1, h2, h3, h4, h5, h6⟩ := h
  obtain ⟨_, _, h3', h4', h5', h6'⟩ := h'
  unfold numI at he
  have em : m = m' := by
    rcases Int.lt_trichotomy m m' with hlt | heq | hgt
    · have := cum_le y m m' ⟨h1, h2⟩ h3 hlt (by omega); omega
    · exact heq
    · have := cum_le y m' m ⟨h1, h2⟩ h3' hgt (by omega); omega
  subst em
  exact ⟨rfl, rfl, by omega⟩
end Go.Proofs.YtdbpkggjnmapiaaDoor
