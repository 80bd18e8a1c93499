/- Packed from the texts WrT. -/
import Derived.Test.YtppmoeidgefkpaaGreatDoorVkD
import Derived.Test.YtppmoeidgefkpaaGreatDoorVkT
section
namespace Go.Proofs.YtppmoeidgefkpaaGreatDoor
open Go.RowKit
theorem allEq_zero : ∀ (a b : List AttrD), a.length = b.length → (allEq false a b = true ↔ a.map zeroA = b.map zeroA)
  | [], [], _ => by rw [allEq]; simp
  | [], _ :: _, h => by cases h
  | _ :: _, [], h => by cases h
  | x :: r, y :: q, h => by
    have ih := allEq_zero r q (by simpa using h)
    rw [allEq, Bool.and_eq_true, ih, List.map_cons, List.map_cons, List.cons.injEq]
    refine and_congr_left fun _ => ?_
    unfold attrEqB zeroA
    simp
mutual
theorem eq_bare : ∀ (n m : NodeD), n.eqB false m = true ↔ stripN n = stripN m
  | .mk k s nm al kids t a, .mk k2 s2 nm2 al2 kids2 t2 a2 => by
    rw [NodeD.eqB, stripN, stripN, Bool.and_eq_true, Bool.and_eq_true, NodeD.mk.injEq]
    have hd : headEq false (.mk k s nm al kids t a) (.mk k2 s2 nm2 al2 kids2 t2 a2) = true ↔ (k = k2 ∧ s = s2 ∧ nm = nm2 ∧ t = t2 ∧ (false = true → a = a2) ∧ al.length = al2.length ∧ kids.length = kids2.length) := by
      unfold headEq
      exact decide_eq_true_iff
    rw [hd]
    show (_ ∧ allEq false al al2 = true ∧ eqsB false kids kids2 = true) ↔ _
    constructor
    · rintro ⟨⟨h1, h2, h3, h4, -, h5, h6⟩, h7, h8⟩
      exact ⟨h1, h2, h3, (allEq_zero _ _ h5).1 h7, (eqs_bare kids kids2 h6).1 h8, h4, rfl⟩
    · rintro ⟨h1, h2, h3, h4, h5, h6, -⟩
      have l1 : al.length = al2.length := by have := congrArg List.length h4; simpa using this
      have l2 : kids.length = kids2.length := by have := congrArg List.length h5; rw [stripsN_map, stripsN_map] at this; simpa using this
      exact ⟨⟨h1, h2, h3, h6, fun h => absurd h (by decide), l1, l2⟩, (allEq_zero _ _ l1).2 h4, (eqs_bare kids kids2 l2).2 h5⟩
theorem eqs_bare : ∀ (l m : List NodeD), l.length = m.length → (eqsB false l m = true ↔ stripsN l = stripsN m)
  | [], [], _ => by rw [eqsB]; simp
  | [], _ :: _, h => by cases h
  | _ :: _, [], h => by cases h
  | k :: r, x :: q, h => by
    rw [eqsB, Bool.and_eq_true, stripsN, stripsN, List.cons.injEq, eq_bare k x, eqs_bare r q (by simpa using h)]
end
theorem attrsF_zero : ∀ l : List AttrD, attrsF (l.map zeroA) = attrsF l
  | [] => rfl
  | x :: r => by rw [List.map_cons, attrsF_cons, attrsF_cons, attrsF_zero r]; rfl
theorem inNms_zero (s : ByteArray) : ∀ l : List AttrD, inNms s (l.map zeroA) = inNms s l
  | [] => rfl
  | x :: r => by
    have := inNms_zero s r
    unfold inNms at this ⊢
    rw [List.map_cons, List.any_cons, List.any_cons, this]
    rfl
theorem attrsOk_zero : ∀ l done : List AttrD, attrsOk (done.map zeroA) (l.map zeroA) = attrsOk done l
  | [], _ => rfl
  | x :: r, done => by
    have ih := attrsOk_zero r (done ++ [x])
    rw [List.map_append] at ih
    have ih' : attrsOk (done.map zeroA ++ [zeroA x]) (r.map zeroA) = attrsOk (done ++ [x]) r := ih
    rw [List.map_cons, attrsOk, attrsOk, inNms_zero, ih']
    rfl
mutual
theorem bare_facts : ∀ n : NodeD, (stripN n).form = n.form ∧ (stripN n).okB = n.okB ∧ (stripN n).depth = n.depth ∧ (stripN n).kind = n.kind
  | .mk k s nm al kids t a => by
    obtain ⟨h1, h2, h3, h4⟩ := bares_facts kids
    refine ⟨?_, ?_, ?_, rfl⟩
    · rw [stripN, NodeD.form, NodeD.form, attrsF_zero, h1, h4]
    · rw [stripN, NodeD.okB, NodeD.okB, h2 false]
      have e1 : (NodeD.mk k s nm (al.map zeroA) (stripsN kids) t 0).dataOk = (NodeD.mk k s nm al kids t a).dataOk := by
        unfold NodeD.dataOk
        simp only [NodeD.sp, NodeD.nm, NodeD.tx, NodeD.al, NodeD.kids, List.length_map, h4]
      have e2 : (NodeD.mk k s nm (al.map zeroA) (stripsN kids) t 0).headOk = (NodeD.mk k s nm al kids t a).headOk := rfl
      have e3 := attrsOk_zero al []
      rw [List.map_nil] at e3
      rw [e1, e2, e3]
    · rw [stripN, NodeD.depth, NodeD.depth, h3 0]
theorem bares_facts : ∀ l : List NodeD, forms (stripsN l) = forms l ∧ (∀ pv, okBs pv (stripsN l) = okBs pv l) ∧ (∀ m, depths (stripsN l) m = depths l m) ∧ (stripsN l).length = l.length
  | [] => ⟨rfl, fun _ => rfl, fun _ => rfl, rfl⟩
  | k :: r => by
    obtain ⟨h1, h2, h3, h4⟩ := bares_facts r
    obtain ⟨g1, g2, g3, g4⟩ := bare_facts k
    refine ⟨by rw [stripsN, forms, forms, h1, g1], fun pv => ?_, fun m => by rw [stripsN, depths, depths, h3, g3], by rw [stripsN, List.length_cons, List.length_cons, h4]⟩
    have hc : (stripN k).isCD = k.isCD := by unfold NodeD.isCD; rw [g4]
    rw [stripsN, okBs, okBs, g2, hc, h2]
end
theorem good_bare (n : NodeD) : (stripN n).goodB = n.goodB := by
  obtain ⟨-, g2, g3, g4⟩ := bare_facts n
  unfold NodeD.goodB
  rw [g2, g3, g4]
theorem eq_write {n m : NodeD} (h : n.eqB false m = true) : writeP n = writeP m ∧ errP n = errP m ∧ n.goodB = m.goodB := by
  have hs := (eq_bare n m).1 h
  have hg : n.goodB = m.goodB := by rw [← good_bare n, ← good_bare m, hs]
  have hf : n.form = m.form := by rw [← (bare_facts n).1, ← (bare_facts m).1, hs]
  unfold writeP errP docP
  rw [hg, hf]
  exact ⟨rfl, rfl, rfl⟩
theorem eq_symm {n m : NodeD} (h : n.eqB false m = true) : m.eqB false n = true := (eq_bare m n).2 ((eq_bare n m).1 h).symm
theorem good_err {n : NodeD} : n.goodB = true ↔ errP n = 0 := by
  unfold errP
  cases n.goodB <;> simp
theorem write_good {n : NodeD} (h : n.goodB = true) : writeP n = ofBytes (docP n) := by unfold writeP; rw [if_pos h]
end Go.Proofs.YtppmoeidgefkpaaGreatDoor
end
