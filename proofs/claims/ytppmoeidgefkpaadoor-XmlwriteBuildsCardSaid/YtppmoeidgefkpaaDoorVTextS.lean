/- Packed from the texts TextS. -/
import Derived.Test.YtppmoeidgefkpaaDoorVTextA
section
namespace Go.Proofs.YtppmoeidgefkpaaDoor
open Go.RowKit
abbrev Span := Int × Int × Bool
def spans : List Span := [(45, 46, false), (48, 57, false), (65, 90, true), (95, 95, true), (97, 122, true), (183, 183, false), (192, 214, true), (216, 246, true), (248, 767, true), (768, 879, false), (880, 893, true), (895, 8191, true), (8204, 8205, true), (8255, 8256, false), (8304, 8591, true), (11264, 12271, true), (12289, 55295, true), (63744, 64975, true), (65008, 65533, true), (65536, 983039, true)]
def spanLo (i : Nat) : Int := (spans.getD i (0, 0, false)).1
def spanHi (i : Nat) : Int := (spans.getD i (0, 0, false)).2.1
def spanSt (i : Nat) : Bool := (spans.getD i (0, 0, false)).2.2
def findSpan (r : Int) : List Span → Span × Bool
  | [] => ((0, 0, false), false)
  | x :: xs => if r < x.1 then ((0, 0, false), false) else if r ≤ x.2.1 then (x, true) else findSpan r xs
def spanOf (r : Int) : Span := (findSpan r spans).1
def inSpan (r : Int) : Bool := (findSpan r spans).2
theorem drop_spans (k : Nat) (h : k < 20) : spans.drop k = (spanLo k, spanHi k, spanSt k) :: spans.drop (k + 1) := by
  have : ∀ k : Fin 20, spans.drop k.val = (spanLo k.val, spanHi k.val, spanSt k.val) :: spans.drop (k.val + 1) := by decide
  exact this ⟨k, h⟩
theorem find_none (r : Int) (k : Nat) (h : k < 20) (hr : r < spanLo k) : findSpan r (spans.drop k) = ((0, 0, false), false) := by
  rw [drop_spans k h, findSpan, if_pos hr]
theorem find_hit (r : Int) (k : Nat) (h : k < 20) (hr : ¬ r < spanLo k) (hl : r ≤ spanHi k) : findSpan r (spans.drop k) = ((spanLo k, spanHi k, spanSt k), true) := by
  rw [drop_spans k h, findSpan, if_neg hr, if_pos hl]
theorem find_next (r : Int) (k : Nat) (h : k < 20) (hr : ¬ r < spanLo k) (hl : ¬ r ≤ spanHi k) : findSpan r (spans.drop k) = findSpan r (spans.drop (k + 1)) := by
  rw [drop_spans k h, findSpan, if_neg hr, if_neg hl]
theorem find_iff (r : Int) (p : Span → Bool) : ∀ l : List Span, l.Pairwise (fun x y => x.2.1 < y.1) → (∀ x ∈ l, x.1 ≤ x.2.1) →
    (((findSpan r l).2 && p (findSpan r l).1) = true ↔ ∃ x ∈ l, p x = true ∧ x.1 ≤ r ∧ r ≤ x.2.1)
  | [], _, _ => by simp [findSpan]
  | x :: xs, hs, hx => by
    have ih := find_iff r p xs (List.Pairwise.of_cons hs) (fun y hy => hx y (List.mem_cons_of_mem _ hy))
    have hlt : ∀ y ∈ xs, x.2.1 < y.1 := (List.pairwise_cons.1 hs).1
    have hxx := hx x (List.mem_cons_self ..)
    rw [findSpan]
    by_cases h1 : r < x.1
    · rw [if_pos h1]
      refine ⟨fun h => by simp at h, fun ⟨y, hy, _, h2, h3⟩ => ?_⟩
      rcases List.mem_cons.1 hy with rfl | hy
      · omega
      · have := hlt y hy; omega
    · rw [if_neg h1]
      by_cases h2 : r ≤ x.2.1
      · rw [if_pos h2]
        refine ⟨fun h => ⟨x, List.mem_cons_self .., by simpa using h, by omega, h2⟩, fun ⟨y, hy, hp, h3, h4⟩ => ?_⟩
        rcases List.mem_cons.1 hy with rfl | hy
        · simpa using hp
        · have := hlt y hy; omega
      · rw [if_neg h2, ih]
        refine ⟨fun ⟨y, hy, h⟩ => ⟨y, List.mem_cons_of_mem _ hy, h⟩, fun ⟨y, hy, hp, h3, h4⟩ => ?_⟩
        rcases List.mem_cons.1 hy with rfl | hy
        · omega
        · exact ⟨y, hy, hp, h3, h4⟩
theorem spans_sorted : spans.Pairwise (fun x y => x.2.1 < y.1) := by decide
theorem spans_each : ∀ x ∈ spans, x.1 ≤ x.2.1 := by decide
set_option maxRecDepth 100000 in
set_option maxHeartbeats 1000000 in
theorem inSpan_eq (r : Int) : inSpan r = nameCharB r := by
  have h := find_iff r (fun _ => true) spans spans_sorted spans_each
  rw [Bool.and_true] at h
  rw [Bool.eq_iff_iff, inSpan, h]
  simp only [spans, nameCharB, nameStartB, nsLetter, nsLow, nsMiddle, nsHigh, Bool.or_eq_true, decide_eq_true_eq, List.mem_cons, exists_eq_or_imp, List.not_mem_nil, exists_eq_left, or_false, true_and]
  omega
set_option maxRecDepth 100000 in
set_option maxHeartbeats 1000000 in
theorem spanOf_eq (r : Int) : (inSpan r && (spanOf r).2.2) = nameStartB r := by
  have h := find_iff r (fun x => x.2.2) spans spans_sorted spans_each
  rw [Bool.eq_iff_iff, inSpan, spanOf, h]
  simp only [spans, nameStartB, nsLetter, nsLow, nsMiddle, nsHigh, Bool.or_eq_true, decide_eq_true_eq, List.mem_cons, exists_eq_or_imp, List.not_mem_nil, exists_eq_left, false_and, or_false, true_and, Bool.false_eq_true, false_or]
  omega
end Go.Proofs.YtppmoeidgefkpaaDoor
end
