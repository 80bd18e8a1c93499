/- Plain facts of layer 3: what Parse makes of the form that Format writes, and of its neighbours; the forms are ordered like the times. -/
import Derived.Test.YtdbpkggjnmapiaaDoorDatS
namespace Go.Proofs.YtdbpkggjnmapiaaDoor
open Go.RowKit

theorem numGo_d2 (n : Int) (r : List Int) (h0 : 0 ≤ n) (h1 : n ≤ 99) : numGo 2 (d2 n ++ r) 0 = n := by
  have a : dgB (48 + n / 10) = true := (dgB_iff _).2 (by omega)
  have b : dgB (48 + n % 10) = true := (dgB_iff _).2 (by omega)
  simp only [d2, List.cons_append, List.nil_append, numGo, a, b, if_true]
  omega
theorem numGo_d4 (n : Int) (r : List Int) (h0 : 0 ≤ n) (h1 : n ≤ 9999) : numGo 4 (d4 n ++ r) 0 = n := by
  have a : dgB (48 + n / 1000) = true := (dgB_iff _).2 (by omega)
  have b : dgB (48 + n / 100 % 10) = true := (dgB_iff _).2 (by omega)
  have c : dgB (48 + n / 10 % 10) = true := (dgB_iff _).2 (by omega)
  have d : dgB (48 + n % 10) = true := (dgB_iff _).2 (by omega)
  simp only [d4, List.cons_append, List.nil_append, numGo, a, b, c, d, if_true]
  omega
/-- A date, a letter and a time of day, and what follows. -/
def baseL (y m d T h mi s : Int) (r : List Int) : List Int := d4 y ++ (45 :: (d2 m ++ (45 :: (d2 d ++ (T :: (d2 h ++ (58 :: (d2 mi ++ (58 :: (d2 s ++ r))))))))))
theorem fmt_base (y m d h mi s : Int) : fmtL y m d h mi s = baseL y m d 84 h mi s [90] := rfl
theorem base_seps (y m d T h mi s : Int) (r : List Int) (hT : T = 84 ∨ T = 116) : sepsB (baseL y m d T h mi s r) = true := by
  rcases hT with rfl | rfl <;> rfl
theorem base_sec {y m d T h mi s : Int} {r : List Int} (hv : okDate y m d) (hc : okClock h mi s) : secL (baseL y m d T h mi s r) = (timeI y m d h mi s, 0) := by
  have hm := dim_bd y m
  have hv' := hv
  have hc' := hc
  obtain ⟨v1, v2, v3, v4, v5, v6⟩ := hv'
  obtain ⟨t1, t2, t3, t4, t5, t6⟩ := hc'
  have e1 : numL (baseL y m d T h mi s r) 0 4 = y := numGo_d4 y _ (by omega) (by omega)
  have e2 : numL (baseL y m d T h mi s r) 5 2 = m := numGo_d2 m _ (by omega) (by omega)
  have e3 : numL (baseL y m d T h mi s r) 8 2 = d := numGo_d2 d _ (by omega) (by omega)
  have e4 : numL (baseL y m d T h mi s r) 11 2 = h := numGo_d2 h _ (by omega) (by omega)
  have e5 : numL (baseL y m d T h mi s r) 14 2 = mi := numGo_d2 mi _ (by omega) (by omega)
  have e6 : numL (baseL y m d T h mi s r) 17 2 = s := numGo_d2 s _ (by omega) (by omega)
  unfold secL
  rw [e1, e2, e3, e4, e5, e6]
  exact secV_time hv hc
theorem parse_base {y m d T h mi s : Int} {r : List Int} {i : Nat} {o : Int} (hT : T = 84 ∨ T = 116) (hv : okDate y m d) (hc : okClock h mi s)
    (hf : fracV (baseL y m d T h mi s r) = (i, true)) (ho : offV (baseL y m d T h mi s r) i = (o, true)) :
    parseL (baseL y m d T h mi s r) = if inTime (timeI y m d h mi s - o) then (timeI y m d h mi s - o, 0) else (0, 3) := by
  unfold parseL
  rw [base_seps _ _ _ _ _ _ _ _ hT, base_sec hv hc, hf, ho]
  rfl
theorem parse_fmt {y m d h mi s : Int} (hv : okDate y m d) (hc : okClock h mi s) : parseL (fmtL y m d h mi s) = (timeI y m d h mi s, 0) := by
  rw [fmt_base, parse_base (i := 19) (o := 0) (.inl rfl) hv hc rfl rfl, Int.sub_zero, time_bd hv hc]
  rfl
/-- With an offset behind it. -/
theorem off_at {l : List Int} {i : Nat} {a b c : Int} (ha : 0 ≤ a ∧ a ≤ 23) (hb : 0 ≤ b ∧ b ≤ 59) (hc : c = 43 ∨ c = 45) (hl : l.drop i = c :: (d2 a ++ (58 :: d2 b))) :
    offV l i = (if c = 45 then -(a * 3600 + b * 60) else a * 3600 + b * 60, true) := by
  have hlen : l.length = i + 6 := by
    have := congrArg List.length hl
    simp [d2] at this
    omega
  have cat : ∀ j, ch l (i + j) = ch (c :: (d2 a ++ (58 :: d2 b))) j := fun j => by
    rw [← hl]; unfold ch; simp [List.getD]
  have c0 : ch l i = c := cat 0
  have c3 : ch l (i + 3) = 58 := cat 3
  have n1 : numL l (i + 1) 2 = a := by
    unfold numL
    rw [← List.drop_drop, hl]
    exact numGo_d2 a (58 :: d2 b) (by omega) (by omega)
  have n4 : numL l (i + 4) 2 = b := by
    unfold numL
    rw [← List.drop_drop, hl]
    have := numGo_d2 b [] (by omega) (by omega)
    rw [List.append_nil] at this
    exact this
  unfold offV isL
  rw [c0, c3, n1, n4, hlen]
  rcases hc with rfl | rfl <;> simp [ha, hb]
theorem parse_plus {y m d h mi s a b : Int} (hv : okDate y m d) (hc : okClock h mi s) (ha : 0 ≤ a ∧ a ≤ 23) (hb : 0 ≤ b ∧ b ≤ 59) :
    parseL (baseL y m d 84 h mi s (43 :: (d2 a ++ (58 :: d2 b)))) = if inTime (timeI y m d h mi s - (a * 3600 + b * 60)) then (timeI y m d h mi s - (a * 3600 + b * 60), 0) else (0, 3) :=
  parse_base (i := 19) (.inl rfl) hv hc rfl (off_at ha hb (.inl rfl) rfl)
theorem parse_minus {y m d h mi s a b : Int} (hv : okDate y m d) (hc : okClock h mi s) (ha : 0 ≤ a ∧ a ≤ 23) (hb : 0 ≤ b ∧ b ≤ 59) :
    parseL (baseL y m d 84 h mi s (46 :: 50 :: 53 :: 45 :: (d2 a ++ (58 :: d2 b)))) = if inTime (timeI y m d h mi s + (a * 3600 + b * 60)) then (timeI y m d h mi s + (a * 3600 + b * 60), 0) else (0, 3) := by
  have := parse_base (r := 46 :: 50 :: 53 :: 45 :: (d2 a ++ (58 :: d2 b))) (T := 84) (i := 22) (.inl rfl) hv hc rfl (off_at ha hb (.inr rfl) rfl)
  rw [this, if_pos rfl, Int.sub_neg]
theorem parse_zero {y m d h mi s : Int} (hv : okDate y m d) (hc : okClock h mi s) : parseL (baseL y m d 116 h mi s [46, 48, 122]) = (timeI y m d h mi s, 0) := by
  rw [parse_base (i := 21) (o := 0) (.inr rfl) hv hc rfl rfl, Int.sub_zero, time_bd hv hc]
  rfl
theorem parse_accepts {l : List Int} {u : Int} (h : parseL l = (u, 0)) : inTime u = true := by
  unfold parseL at h
  split at h
  · split at h
    · rename_i h2
      simp only [Prod.mk.injEq, and_true] at h
      rw [← h]; exact h2
    · simp at h
  · simp at h
theorem parse_or (l : List Int) : parseL l = ((parseL l).1, 0) ∨ parseL l = (0, 3) ∨ parseL l = (0, 20) := by
  unfold parseL
  split
  · split <;> simp
  · simp

/-! The order. -/
def ltZ : List Int → List Int → Bool
  | _, [] => false
  | [], _ :: _ => true
  | a :: x, b :: y => decide (a < b) || (a == b && ltZ x y)
theorem ltZ_cons (a b : Int) (x y : List Int) : ltZ (a :: x) (b :: y) = (decide (a < b) || (a == b && ltZ x y)) := rfl
theorem ltZ_same (a : Int) (x y : List Int) : ltZ (a :: x) (a :: y) = ltZ x y := by rw [ltZ_cons]; simp
theorem ltZ_iff (a b : Int) (x y : List Int) : ltZ (a :: x) (b :: y) = true ↔ a < b ∨ (a = b ∧ ltZ x y = true) := by rw [ltZ_cons]; simp
theorem ltZ_d2 (a b : Int) (x y : List Int) (_ha : 0 ≤ a ∧ a ≤ 99) (_hb : 0 ≤ b ∧ b ≤ 99) : ltZ (d2 a ++ x) (d2 b ++ y) = true ↔ a < b ∨ (a = b ∧ ltZ x y = true) := by
  simp only [d2, List.cons_append, List.nil_append, ltZ_iff]
  generalize ltZ x y = t
  cases t <;> simp <;> omega
theorem ltZ_d4 (a b : Int) (x y : List Int) (ha : 0 ≤ a ∧ a ≤ 9999) (hb : 0 ≤ b ∧ b ≤ 9999) : ltZ (d4 a ++ x) (d4 b ++ y) = true ↔ a < b ∨ (a = b ∧ ltZ x y = true) := by
  simp only [d4, List.cons_append, List.nil_append, ltZ_iff]
  generalize ltZ x y = t
  cases t <;> simp <;> omega
theorem ltZ_tail (a : Int) (x y : List Int) : ltZ (a :: x) (a :: y) = true ↔ ltZ x y = true := by rw [ltZ_same]
/-- The days are ordered like the dates. -/
theorem num_lt {y m d y' m' d' : Int} (h : okDate y m d) (h' : okDate y' m' d') : numI y m d < numI y' m' d' ↔ y < y' ∨ (y = y' ∧ (m < m' ∨ (m = m' ∧ d < d'))) := by
  have b := num_bd y m d h
  have b' := num_bd y' m' d' h'
  have hh := h
  have hh' := h'
  obtain ⟨v1, v2, v3, v4, v5, v6⟩ := hh
  obtain ⟨u1, u2, u3, u4, u5, u6⟩ := hh'
  rcases Int.lt_trichotomy y y' with hl | rfl | hl
  · have := bef_mono (y + 1) y' (by omega)
    constructor
    · intro _; exact .inl hl
    · intro _; omega
  · have n1 : numI y m d = befI y - 719162 + cumI y m + (d - 1) := rfl
    have n2 : numI y m' d' = befI y - 719162 + cumI y m' + (d' - 1) := rfl
    rcases Int.lt_trichotomy m m' with hm | rfl | hm
    · have := cum_le y m m' ⟨v1, v2⟩ v3 hm (by omega)
      omega
    · omega
    · have := cum_le y m' m ⟨v1, v2⟩ u3 hm (by omega)
      omega
  · have := bef_mono (y' + 1) y (by omega)
    omega
theorem time_lt {y m d h mi s y' m' d' h' mi' s' : Int} (hv : okDate y m d) (hc : okClock h mi s) (hv' : okDate y' m' d') (hc' : okClock h' mi' s') :
    ltZ (fmtL y m d h mi s) (fmtL y' m' d' h' mi' s') = true ↔ timeI y m d h mi s < timeI y' m' d' h' mi' s' := by
  have n := num_lt hv hv'
  have n' := num_lt hv' hv
  have dm := dim_bd y m
  have dm' := dim_bd y' m'
  obtain ⟨v1, v2, v3, v4, v5, v6⟩ := hv
  obtain ⟨u1, u2, u3, u4, u5, u6⟩ := hv'
  obtain ⟨t1, t2, t3, t4, t5, t6⟩ := hc
  obtain ⟨r1, r2, r3, r4, r5, r6⟩ := hc'
  rw [fmt_base, fmt_base]
  unfold baseL
  rw [ltZ_d4 _ _ _ _ (by omega) (by omega), ltZ_tail, ltZ_d2 _ _ _ _ (by omega) (by omega), ltZ_tail, ltZ_d2 _ _ _ _ (by omega) (by omega), ltZ_tail, ltZ_d2 _ _ _ _ (by omega) (by omega), ltZ_tail, ltZ_d2 _ _ _ _ (by omega) (by omega), ltZ_tail, ltZ_d2 _ _ _ _ (by omega) (by omega), ltZ_tail]
  rw [show ltZ ([] : List Int) [] = false from rfl]
  unfold timeI
  generalize numI y m d = a at *
  generalize numI y' m' d' = b at *
  simp only [Bool.false_eq_true, and_false, or_false]
  omega
end Go.Proofs.YtdbpkggjnmapiaaDoor
