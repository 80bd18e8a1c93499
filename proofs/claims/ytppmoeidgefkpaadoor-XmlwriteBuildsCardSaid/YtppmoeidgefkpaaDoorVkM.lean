/- Packed from the texts WrA WrB WrD. -/
import Derived.Test.YtppmoeidgefkpaaDoorVChk
import Derived.Test.YtppmoeidgefkpaaDoorVEscB
import Derived.Test.YtppmoeidgefkpaaDoorVTokA
import Derived.Test.YtppmoeidgefkpaaDoorVkF
import Derived.BigQuiet
import Derived.Deep.RegionHeld3
section
namespace Go.Proofs.YtppmoeidgefkpaaDoor
open Go.RowKit
def charsB (s : ByteArray) : Bool := (chk s).2 == 0
def noneB (s : ByteArray) : Bool := s.size == 0
def attrOk (x : AttrD) : Bool := noneB x.sp && (isQB x.nm && charsB x.va)
def inNms (s : ByteArray) (l : List AttrD) : Bool := l.any fun y => decide (y.nm = s)
def attrsOk : List AttrD → List AttrD → Bool
  | _, [] => true
  | done, x :: r => attrOk x && (!inNms x.nm done && attrsOk (done ++ [x]) r)
def NodeD.dataOk (n : NodeD) : Bool := !noneB n.tx && (charsB n.tx && (noneB n.sp && (noneB n.nm && (n.al.length == 0 && n.kids.length == 0))))
def NodeD.headOk (n : NodeD) : Bool := noneB n.sp && (noneB n.tx && isQB n.nm)
def NodeD.isCD (n : NodeD) : Bool := decide (n.kind = 1)
mutual
def NodeD.okB : NodeD → Bool
  | .mk k sp nm al kids tx a => if k = 1 then (NodeD.mk k sp nm al kids tx a).dataOk else if k = 0 then (NodeD.mk k sp nm al kids tx a).headOk && (attrsOk [] al && okBs false kids) else false
def okBs : Bool → List NodeD → Bool
  | _, [] => true
  | p, k :: r => (k.okB && !(p && k.isCD)) && okBs k.isCD r
end
def prevC (l : List NodeD) (i : Nat) : Bool := match i with
  | 0 => false
  | j + 1 => (l[j]?).any NodeD.isCD
theorem prevC_zero (l : List NodeD) : prevC l 0 = false := rfl
theorem prevC_succ (l : List NodeD) (i : Nat) (h : i < l.length) : prevC l (i + 1) = l[i].isCD := by
  show (l[i]?).any NodeD.isCD = _
  rw [List.getElem?_eq_getElem h]; rfl
theorem attrsOk_drop (l : List AttrD) (i : Nat) (h : i < l.length) : attrsOk (l.take i) (l.drop i) = (attrOk l[i] && (!inNms l[i].nm (l.take i) && attrsOk (l.take (i + 1)) (l.drop (i + 1)))) := by
  rw [List.drop_eq_getElem_cons h, attrsOk, ← List.take_succ_eq_append_getElem h]
mutual
def NodeD.okD : NodeD → Nat → Bool
  | .mk k sp nm al kids tx a, d => if k = 1 then (NodeD.mk k sp nm al kids tx a).dataOk else if k = 0 then decide (d ≤ 100) && ((NodeD.mk k sp nm al kids tx a).headOk && (attrsOk [] al && okDs false kids (d + 1))) else false
def okDs : Bool → List NodeD → Nat → Bool
  | _, [], _ => true
  | p, k :: r, d => (!(p && k.isCD) && k.okD d) && okDs k.isCD r d
end
theorem okD_eq (n : NodeD) (d : Nat) : n.okD d = if n.kind = 1 then n.dataOk else if n.kind = 0 then decide (d ≤ 100) && (n.headOk && (attrsOk [] n.al && okDs false n.kids (d + 1))) else false := by cases n; rw [NodeD.okD]; rfl
theorem okDs_drop (l : List NodeD) (i d : Nat) (h : i < l.length) : okDs (prevC l i) (l.drop i) d = ((!(prevC l i && l[i].isCD) && l[i].okD d) && okDs (prevC l (i + 1)) (l.drop (i + 1)) d) := by
  rw [List.drop_eq_getElem_cons h, okDs, prevC_succ l i h]
theorem depths_le : ∀ (l : List NodeD) (m b : Nat), depths l m ≤ b ↔ m ≤ b ∧ ∀ k ∈ l, k.depth ≤ b
  | [], m, b => by rw [depths]; simp
  | k :: r, m, b => by
    rw [depths, depths_le r]
    simp only [List.mem_cons, forall_eq_or_imp]
    rw [Nat.max_le, and_assoc]
mutual
theorem okD_okB : ∀ (n : NodeD) (d : Nat), d ≤ 101 → n.okD d = (n.okB && decide (n.depth + d ≤ 101))
  | .mk k sp nm al kids tx a, d, hd => by
    rw [NodeD.okD, NodeD.okB, NodeD.depth]
    by_cases h1 : k = 1
    · rw [if_pos h1, if_pos h1, if_pos h1, decide_eq_true (by omega), Bool.and_true]
    · rw [if_neg h1, if_neg h1, if_neg h1]
      by_cases h0 : k = 0
      · rw [if_pos h0, if_pos h0]
        by_cases hd1 : d ≤ 100
        · rw [decide_eq_true hd1, Bool.true_and, okDs_okBs false kids (d + 1) (by omega)]
          have : decide (∀ k ∈ kids, k.depth + (d + 1) ≤ 101) = decide (depths kids 0 + 1 + d ≤ 101) := by
            apply decide_eq_decide.2
            rw [show depths kids 0 + 1 + d ≤ 101 ↔ depths kids 0 ≤ 100 - d by omega, depths_le]
            constructor
            · intro h
              exact ⟨Nat.zero_le _, fun k hk => by have := h k hk; omega⟩
            · intro h k hk
              have := h.2 k hk
              omega
          rw [this]
          simp only [Bool.and_assoc]
        · rw [decide_eq_false hd1, Bool.false_and, decide_eq_false (by omega), Bool.and_false]
      · rw [if_neg h0, if_neg h0, Bool.false_and]
theorem okDs_okBs : ∀ (p : Bool) (l : List NodeD) (d : Nat), d ≤ 101 → okDs p l d = (okBs p l && decide (∀ k ∈ l, k.depth + d ≤ 101))
  | p, [], d, _ => by rw [okDs, okBs]; simp
  | p, k :: r, d, hd => by
    rw [okDs, okBs, okD_okB k d hd, okDs_okBs k.isCD r d hd]
    simp only [List.mem_cons, forall_eq_or_imp]
    rw [Bool.decide_and]
    cases k.okB <;> cases okBs k.isCD r <;> cases decide (k.depth + d ≤ 101) <;> cases (!(p && k.isCD)) <;> simp
end
def NodeD.goodB (n : NodeD) : Bool := decide (n.kind = 0) && (decide (n.depth ≤ 100) && n.okB)
theorem good_okD (n : NodeD) : n.goodB = (decide (n.kind = 0) && n.okD 1) := by
  rw [okD_okB n 1 (by decide)]
  unfold NodeD.goodB
  by_cases h : n.depth ≤ 100
  · rw [decide_eq_true h, decide_eq_true (show n.depth + 1 ≤ 101 by omega), Bool.true_and, Bool.and_true]
  · rw [decide_eq_false h, decide_eq_false (show ¬ n.depth + 1 ≤ 101 by omega), Bool.false_and, Bool.and_false, Bool.and_false, Bool.and_false]
def errP (n : NodeD) : Int := if n.goodB then 0 else 22
def attrF (x : AttrD) : List UInt8 := 32 :: (x.nm.data.toList ++ (61 :: 34 :: (escP true x.va.data.toList ++ [34])))
def attrsF (l : List AttrD) : List UInt8 := l.flatMap attrF
theorem attrsF_cons (x : AttrD) (r : List AttrD) : attrsF (x :: r) = attrF x ++ attrsF r := by unfold attrsF; rw [List.flatMap_cons]
mutual
def NodeD.form : NodeD → List UInt8
  | .mk k _ nm al kids tx _ => if k = 1 then escP false tx.data.toList else 60 :: (nm.data.toList ++ (attrsF al ++ (if kids.length = 0 then [47, 62] else 62 :: (forms kids ++ (60 :: 47 :: (nm.data.toList ++ [62]))))))
def forms : List NodeD → List UInt8
  | [] => []
  | k :: r => k.form ++ forms r
end
theorem form_eq (n : NodeD) : n.form = if n.kind = 1 then escP false n.tx.data.toList else 60 :: (n.nm.data.toList ++ (attrsF n.al ++ (if n.kids.length = 0 then [47, 62] else 62 :: (forms n.kids ++ (60 :: 47 :: (n.nm.data.toList ++ [62])))))) := by cases n; rw [NodeD.form]; rfl
def headP : List UInt8 := [60, 63, 120, 109, 108, 32, 118, 101, 114, 115, 105, 111, 110, 61, 34, 49, 46, 48, 34, 32, 101, 110, 99, 111, 100, 105, 110, 103, 61, 34, 85, 84, 70, 45, 56, 34, 63, 62, 10]
def docP (n : NodeD) : List UInt8 := headP ++ (n.form ++ [10])
def writeP (n : NodeD) : ByteArray := if n.goodB then ofBytes (docP n) else ⟨#[]⟩
theorem blen (s : ByteArray) : s.data.toList.length = s.size := by simp
theorem attrsF_len : ∀ l : List AttrD, (attrsF l).length ≤ 6 * (l.map fun x => 1 + x.sp.size + x.nm.size + x.va.size).sum
  | [] => Nat.le_refl _
  | x :: r => by
    have h1 := attrsF_len r
    have h2 := escP_len true x.va.data.toList
    rw [blen] at h2
    rw [attrsF_cons, List.length_append, List.map_cons, List.sum_cons]
    unfold attrF
    simp only [List.length_cons, List.length_append, List.length_nil, blen]
    omega
mutual
theorem form_len : ∀ n : NodeD, n.form.length ≤ 6 * n.mass
  | .mk k sp nm al kids tx a => by
    have h1 := forms_len kids
    have h2 := escP_len false tx.data.toList
    have h3 := attrsF_len al
    rw [blen] at h2
    rw [NodeD.form, NodeD.mass]
    split
    · omega
    · split
      all_goals
        simp only [List.length_cons, List.length_append, List.length_nil, blen]
        omega
theorem forms_len : ∀ l : List NodeD, (forms l).length ≤ 6 * masses l
  | [] => Nat.le_refl _
  | k :: r => by
    have h1 := form_len k
    have h2 := forms_len r
    rw [forms, masses, List.length_append]
    omega
end
theorem mass_eq (n : NodeD) : n.mass = 1 + n.sp.size + n.nm.size + n.tx.size + (n.al.map fun x => 1 + x.sp.size + x.nm.size + x.va.size).sum + masses n.kids := by cases n; rw [NodeD.mass]; rfl
theorem masses_mem : ∀ (l : List NodeD) (k : NodeD), k ∈ l → k.mass ≤ masses l
  | [], _, h => by cases h
  | x :: r, k, h => by
    rw [masses]
    rcases List.mem_cons.1 h with rfl | h
    · omega
    · have := masses_mem r k h
      omega
theorem mass_kid (n k : NodeD) (h : k ∈ n.kids) : k.mass < n.mass := by
  have := masses_mem _ k h
  rw [mass_eq n]
  omega
theorem masses_len : ∀ l : List NodeD, l.length ≤ masses l
  | [] => Nat.le_refl _
  | k :: r => by
    have := masses_len r
    have := mass_eq k
    rw [List.length_cons, masses]
    omega
theorem sum_mem : ∀ (l : List AttrD) (x : AttrD), x ∈ l → 1 + x.sp.size + x.nm.size + x.va.size ≤ (l.map fun x => 1 + x.sp.size + x.nm.size + x.va.size).sum
  | [], _, h => by cases h
  | y :: r, x, h => by
    rw [List.map_cons, List.sum_cons]
    rcases List.mem_cons.1 h with rfl | h
    · omega
    · have := sum_mem r x h
      omega
theorem mass_of {n : NodeD} (h : ¬ 5000 < n.wgt 0) : n.mass ≤ 5000 := by
  have h1 := wgt_mass n 0 (by omega)
  omega
theorem str_none {s : ByteArray} (h : s.size = 0) : s = ⟨#[]⟩ := by
  cases s with | mk d => simp [ByteArray.size] at h; subst h; rfl
theorem str_some {s : ByteArray} (h : s.size ≠ 0) : s.toList.isEmpty = false ∧ (s.toList == []) = false ∧ (s.toList != []) = true ∧ ¬ s.toList = [] := by
  have h1 : ¬ s.toList = [] := by
    intro e
    have := Lib.size_eq s
    rw [← Lib.toList_data, e] at this
    exact h this
  refine ⟨by simpa using h1, by simpa using h1, by simpa using h1, h1⟩
theorem noneB_t {s : ByteArray} (h : s.size = 0) : noneB s = true := by unfold noneB; rw [h]; rfl
theorem noneB_f {s : ByteArray} (h : s.size ≠ 0) : noneB s = false := by unfold noneB; simpa using h
end Go.Proofs.YtppmoeidgefkpaaDoor
end
section
namespace Go.Proofs.YtppmoeidgefkpaaDoor
open Go.RowKit
theorem trN {a b : Bool} (h : a = b) : Ending.returned (.bool a) = .returned (.bool b) := by rw [h]
end Go.Proofs.YtppmoeidgefkpaaDoor
end
section
namespace Go.Proofs.YtppmoeidgefkpaaDoor
open Go.RowKit
theorem err_cases (n : NodeD) : (n.goodB = true ∧ errP n = 0 ∧ writeP n = ofBytes (docP n)) ∨ (n.goodB = false ∧ errP n = 22 ∧ writeP n = ⟨#[]⟩) := by
  unfold errP writeP
  cases n.goodB
  · exact .inr ⟨rfl, rfl, rfl⟩
  · exact .inl ⟨rfl, rfl, rfl⟩
end Go.Proofs.YtppmoeidgefkpaaDoor
end
