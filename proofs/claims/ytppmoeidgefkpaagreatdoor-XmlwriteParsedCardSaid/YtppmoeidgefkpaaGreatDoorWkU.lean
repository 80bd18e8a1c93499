/- Packed from the texts WrT. -/
import Derived.Test.YtppmoeidgefkpaaGreatDoorWkD
import Derived.Test.YtppmoeidgefkpaaGreatDoorWkT
namespace Go.Proofs.YtppmoeidgefkpaaGreatDoor
section
open Go.RowKit
theorem allEq_zero : ∀ (a b : List AttrD), a.length = b.length → (allEq false a b = true ↔ a.map zeroA = b.map zeroA)
 | [], [], _ => by rw [allEq]; simp
 | [], _ :: _, h => by cases h
 | _ :: _, [], h => by cases h
 | x :: r, y :: q, h => by
  have ih := allEq_zero r q (by simpa using h)
  rw [allEq, Bool.and_eq_true, ih, List.map_cons, List.map_cons, List.cons.injEq]
  refine and_congr_left fun _ => ?_
  unfold attrEqB zeroA
  simp
mutual
theorem eq_bare : ∀ (n m : NodeD), n.eqB false m = true ↔ stripN n = stripN m
 | .mk k s nm al kids t a, .mk k2 s2 nm2 al2 kids2 t2 a2 => by
  rw [NodeD.eqB, stripN, stripN, Bool.and_eq_true, Bool.and_eq_true, NodeD.mk.injEq]
  have hd : headEq false (.mk k s nm al kids t a) (.mk k2 s2 nm2 al2 kids2 t2 a2) = true ↔ (k = k2 ∧ s = s2 ∧ nm = nm2 ∧ t = t2 ∧ (false = true → a = a2) ∧ al.length = al2.length ∧ kids.length = kids2.length) := by
   unfold headEq
   exact decide_eq_true_iff
  rw [hd]
  show (_ ∧ allEq false al al2 = true ∧ eqsB false kids kids2 = true) ↔ _
  constructor
  ·rintro ⟨⟨h1, h2, h3, h4, -, h5, h6⟩, h7, h8⟩
   exact ⟨h1, h2, h3, (allEq_zero _ _ h5).1 h7, (eqs_bare kids kids2 h6).1 h8, h4, rfl⟩
  ·rintro ⟨h1, h2, h3, h4, h5, h6, -⟩
   have l1 : al.length = al2.length := by have := congrArg List.length h4; simpa using this
   have l2 : kids.length = kids2.length := by have := congrArg List.length h5; rw [stripsN_map, stripsN_map] at this; simpa using this
   exact ⟨⟨h1, h2, h3, h6, fun h => absurd h (by decide), l1, l2⟩, (allEq_zero _ _ l1).2 h4, (eqs_bare kids kids2 l2).2 h5⟩
theorem eqs_bare : ∀ (l m : List NodeD), l.length = m.length → (eqsB false l m = true ↔ stripsN l = stripsN m)
 | [], [], _ => by rw [eqsB]; simp
 | [], _ :: _, h => by cases h
 | _ :: _, [], h => by cases h
 | k :: r, x :: q, h => by
  rw [eqsB, Bool.and_eq_true, stripsN, stripsN, List.cons.injEq, eq_bare k x, eqs_bare r q (by simpa using h)]
end
theorem eq_symm {n m : NodeD} (h : n.eqB false m = true) : m.eqB false n = true := (eq_bare m n).2 ((eq_bare n m).1 h).symm
theorem good_err {n : NodeD} : n.goodB = true ↔ errP n = 0 := by
 unfold errP
 cases n.goodB <;> simp
theorem write_good {n : NodeD} (h : n.goodB = true) : writeP n = oB (docP n) := by unfold writeP; rw [if_pos h]
end
end Go.Proofs.YtppmoeidgefkpaaGreatDoor
