/- The reference of layer 3: offset and Parse: what each returns. -/
import Derived.Test.YtdbpkggjnmapiaaDoorDatI
namespace Go.Proofs.YtdbpkggjnmapiaaDoor
open Go.RowKit

theorem retP {j k : IntKind} {p : Int × Int} {a b : Int} (h : p = (a, b)) : Ending.returned (.tuple #[.int j a, .int k b]) = .returned (.tuple #[.int j p.1, .int k p.2]) := by rw [h]
theorem numL_one (l : List Int) (i : Nat) : numL l i 1 = if dgB (ch l i) then ch l i - 48 else -1 := by
  by_cases h : i < l.length
  · unfold numL; rw [drop_ch l i h, numGo]
    split
    · rw [numGo]; omega
    · rfl
  · rw [numL_short l i 1 (by omega) (by omega)]
    have : ch l i = -1 := by unfold ch; rw [List.getD_eq_getElem?_getD, List.getElem?_eq_none (by omega)]; rfl
    rw [this]; rfl
theorem digs_at (l : List Int) (i : Nat) : digs (l.drop i) = if dgB (ch l i) then digs (l.drop (i + 1)) + 1 else 0 := by
  by_cases h : i < l.length
  · rw [drop_ch l i h, digs]
  · have : ch l i = -1 := by unfold ch; rw [List.getD_eq_getElem?_getD, List.getElem?_eq_none (by omega)]; rfl
    rw [this, List.drop_eq_nil_of_le (by omega)]; rfl
theorem isL_in (l : List Int) (i : Nat) (a b : Int) (ha : 0 ≤ a) (hb : 0 ≤ b) (h : isL l i a b = true) : i < l.length := by
  rcases Nat.lt_or_ge i l.length with h1 | h1
  · exact h1
  · have : ch l i = -1 := by unfold ch; rw [List.getD_eq_getElem?_getD, List.getElem?_eq_none h1]; rfl
    unfold isL at h; rw [this] at h
    simp at h; omega
theorem offV_bd (l : List Int) (i : Nat) : -86340 ≤ (offV l i).1 ∧ (offV l i).1 ≤ 86340 := by
  unfold offV
  split
  · simp
  · split
    · rename_i h
      simp only [Bool.and_eq_true, decide_eq_true_eq] at h
      simp only
      split <;> omega
    · simp

theorem fracV_at (l : List Int) : 19 ≤ (fracV l).1 ∧ (fracV l).1 ≤ 20 + l.length := by
  have := digs_le (l.drop 20)
  simp only [List.length_drop] at this
  unfold fracV; split <;> simp <;> omega
theorem secV_or (y m d h mi s : Int) : secV y m d h mi s = ((secV y m d h mi s).1, 0) ∨ secV y m d h mi s = (0, 3) := by
  unfold secV; split <;> simp

end Go.Proofs.YtdbpkggjnmapiaaDoor
