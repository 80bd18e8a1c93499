/- Plain facts of layer 3: what is not of the form. -/
import Derived.Test.YtdbpkggjnmapiaaDoorDatG
namespace Go.Proofs.YtdbpkggjnmapiaaDoor
open Go.RowKit

theorem isL_ne {l : List Int} {i : Nat} {a b x : Int} (h : ch l i = x) (ha : x ≠ a) (hb : x ≠ b) : isL l i a b = false := by
  unfold isL; rw [h]
  have h1 : (x == a) = false := by simpa using ha
  have h2 : (x == b) = false := by simpa using hb
  rw [h1, h2]; rfl
theorem parse_noseps {l : List Int} (h : sepsB l = false) : parseL l = (0, 20) := by unfold parseL; rw [h]; rfl
theorem no4 {l : List Int} {x : Int} (h : ch l 4 = x) (hx : 48 ≤ x) : parseL l = (0, 20) := parse_noseps (by unfold sepsB; rw [isL_ne h (by omega) (by omega)]; simp)
theorem no7 {l : List Int} {x : Int} (h : ch l 7 = x) (hx : 48 ≤ x) : parseL l = (0, 20) := parse_noseps (by unfold sepsB; rw [isL_ne (i := 7) h (by omega) (by omega)]; simp)
theorem no10 {l : List Int} {x : Int} (h : ch l 10 = x) (hx : x ≤ 57) : parseL l = (0, 20) := parse_noseps (by unfold sepsB; rw [isL_ne (i := 10) h (by omega) (by omega)]; simp)
theorem no13 {l : List Int} {x : Int} (h : ch l 13 = x) (hx : x ≤ 57) : parseL l = (0, 20) := parse_noseps (by unfold sepsB; rw [isL_ne (i := 13) h (by omega) (by omega)]; simp)
theorem no16 {l : List Int} {x : Int} (h : ch l 16 = x) (hx : x ≤ 57) : parseL l = (0, 20) := parse_noseps (by unfold sepsB; rw [isL_ne (i := 16) h (by omega) (by omega)]; simp)
theorem parse_nosec {l : List Int} (h : numL l 17 2 = -1) : parseL l = (0, 20) := by
  have : secL l = (0, 3) := by
    unfold secL; rw [h]
    unfold secV okTime
    rw [decide_eq_false (p := 0 ≤ numL l 11 2 ∧ numL l 11 2 ≤ 23 ∧ 0 ≤ numL l 14 2 ∧ numL l 14 2 ≤ 59 ∧ (0 : Int) ≤ -1 ∧ (-1 : Int) ≤ 59) (by omega)]
    simp
  unfold parseL; rw [this]; simp
theorem parse_front {y m d h mi s : Int} (c : Int) (_hv : okDate y m d) : parseL (c :: fmtL y m d h mi s) = (0, 20) :=
  no4 (x := 48 + y % 10) rfl (by omega)
theorem parse_behind {y m d h mi s : Int} (c : Int) (hv : okDate y m d) (hc : okClock h mi s) : parseL (fmtL y m d h mi s ++ [c]) = (0, 20) := by
  show parseL (baseL y m d 84 h mi s [90, c]) = (0, 20)
  have hf : fracV (baseL y m d 84 h mi s [90, c]) = (19, true) := rfl
  have ho : offV (baseL y m d 84 h mi s [90, c]) 19 = (0, false) := rfl
  unfold parseL
  rw [base_seps _ _ _ _ _ _ _ _ (.inl rfl), base_sec hv hc, hf, ho]
  rfl
theorem ch_less (l : List Int) (k i : Nat) (h : k ≤ i) (hk : k < l.length) : ch (l.take k ++ l.drop (k + 1)) i = ch l (i + 1) := by
  unfold ch
  rw [List.getD_eq_getElem?_getD, List.getD_eq_getElem?_getD, List.getElem?_append_right (by rw [List.length_take]; omega), List.length_take, Nat.min_eq_left (by omega), List.getElem?_drop, show k + 1 + (i - k) = i + 1 by omega]
theorem parse_less {y m d h mi s : Int} (hv : okDate y m d) (hc : okClock h mi s) (k : Nat) (hk : k < 19) : parseL ((fmtL y m d h mi s).take k ++ (fmtL y m d h mi s).drop (k + 1)) = (0, 20) := by
  have hm := dim_bd y m
  obtain ⟨v1, v2, v3, v4, v5, v6⟩ := hv
  obtain ⟨t1, t2, t3, t4, t5, t6⟩ := hc
  have hl := fmtL_length y m d h mi s
  have e5 : ch (fmtL y m d h mi s) 5 = 48 + m / 10 := rfl
  have e8 : ch (fmtL y m d h mi s) 8 = 48 + d / 10 := rfl
  have e11 : ch (fmtL y m d h mi s) 11 = 48 + h / 10 := rfl
  have e14 : ch (fmtL y m d h mi s) 14 = 48 + mi / 10 := rfl
  have e17 : ch (fmtL y m d h mi s) 17 = 48 + s / 10 := rfl
  rcases (by omega : k ≤ 4 ∨ (k ≤ 7) ∨ (k ≤ 10) ∨ (k ≤ 13) ∨ (k ≤ 16) ∨ k = 17 ∨ k = 18) with g | g | g | g | g | rfl | rfl
  · exact no4 ((ch_less _ k 4 g (by omega)).trans e5) (by omega)
  · exact no7 ((ch_less _ k 7 g (by omega)).trans e8) (by omega)
  · exact no10 ((ch_less _ k 10 g (by omega)).trans e11) (by omega)
  · exact no13 ((ch_less _ k 13 g (by omega)).trans e14) (by omega)
  · exact no16 ((ch_less _ k 16 g (by omega)).trans e17) (by omega)
  · refine parse_nosec ?_
    show numGo 2 [48 + s % 10, 90] 0 = -1
    rw [numGo]; split <;> rfl
  · refine parse_nosec ?_
    show numGo 2 [48 + s / 10, 90] 0 = -1
    rw [numGo]; split <;> rfl
theorem str_extract (l : List Int) (a b : Nat) : (strOfNums l).extract a b = strOfNums ((l.take b).drop a) := by
  apply str_ext
  rw [strOfNums_data, List.map_drop, List.map_take, ← strOfNums_data]
  simp [List.drop_take]
end Go.Proofs.YtdbpkggjnmapiaaDoor
