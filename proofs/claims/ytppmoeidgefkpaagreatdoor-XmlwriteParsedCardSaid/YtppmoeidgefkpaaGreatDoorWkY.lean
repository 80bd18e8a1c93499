/- Packed from the texts WrZ. -/
import Derived.Test.YtppmoeidgefkpaaGreatDoorWkD
import Derived.Test.YtppmoeidgefkpaaGreatDoorWkF
import Derived.Test.YtppmoeidgefkpaaGreatDoorWkW
import Derived.Test.YtppmoeidgefkpaaGreatDoorWkX
namespace Go.Proofs.YtppmoeidgefkpaaGreatDoor
section
open Go.RowKit
theorem okBs_snoc (k : NodeD) : ∀ (l : List NodeD) (p : Bool), okBs p (l ++ [k]) = (okBs p l && (k.okB && !(lastC p l && k.isCD)))
 | [], p => by rw [List.nil_append, okBs, okBs, okBs, lastC, Bool.and_true, Bool.true_and]
 | x :: r, p => by
  rw [List.cons_append, okBs, okBs_snoc k r, okBs, lastC]
  simp only [Bool.and_assoc]
  rfl
def HeadV (n : NodeD) : Prop := n.kind = 0 ∧ n.headOk = true ∧ attrsOk [] n.al = true
def HeadsV : NodeD → List NodeD → Prop
 | _, [] => True
 | n, f :: r => HeadV n ∧ HeadsV f r
theorem HeadV.add {n : NodeD} (k : NodeD) (h : HeadV n) : HeadV (addKid k n) := by cases n; exact h
theorem HeadsV.add {n : NodeD} {l : List NodeD} (k : NodeD) (h : HeadsV n l) : HeadsV (addKid k n) l := by
 cases l with
 | nil => trivial
 | cons f r => exact ⟨h.1.add k, h.2⟩
structure MacV (m : Mac) : Prop where
 top : okBs false m.top.kids = true
 up : ∀ f ∈ m.up, okBs false f.kids = true
 heads : HeadsV m.top m.up
 data : okL m.data
theorem MacV.start : MacV mac0 := ⟨rfl, fun f h => (by cases h), trivial, okL_nil⟩
theorem charK_ok (l : List UInt8) (a : Int) (h0 : l ≠ []) (h : okL l) : (charK l a).okB = true := by
 rw [ok_eq]
 show (if (1 : Int) = 1 then _ else _) = true
 rw [if_pos rfl]
 have hz : (oB l).size ≠ 0 := by rw [oBz]; exact fun e => h0 (List.length_eq_zero_iff.1 e)
 show (!noneB (oB l) && (charsB (oB l) && (noneB noB && (noneB noB && (([] : List AttrD).length == 0 && ([] : List NodeD).length == 0))))) = true
 rw [noneB_f hz, charsB_of l h]
 rfl
theorem elem_head {t : TokD} (h : TkOk t) (hk : t.kind = 1) : HeadV (elemN t []) := by
 refine ⟨rfl, ?_, (h.name hk).2⟩
 show (noneB noB && (noneB noB && isQB (oB t.nm))) = true
 rw [(h.name hk).1]; rfl
theorem head_ok {n : NodeD} (h : HeadV n) (hk : okBs false n.kids = true) : n.okB = true := by
 rw [ok_eq, h.1, if_neg (by decide), if_pos rfl, h.2.1, h.2.2, hk]; rfl
theorem MacV.flush {m : Mac} (v : MacV m) (h : MOk m) : okBs false (flushM m).top.kids = true ∧ HeadsV (flushM m).top m.up := by
 unfold flushM
 split
 ·exact ⟨v.top, v.heads⟩
 ·rename_i hd
  refine ⟨?_, v.heads.add _⟩
  show okBs false (addKid _ _).kids = true
  rw [addKid_kids, okBs_snoc, v.top, h.last, charK_ok _ _ hd v.data]
  rfl
theorem elem_notCD {k : NodeD} (h : k.kind = 0) : k.isCD = false := by unfold NodeD.isCD; rw [h]; rfl
theorem MacV.next {m : Mac} (v : MacV m) (h : MOk m) {t : TokD} (ht : TkOk t) : MacV (addM m t).1 := by
 obtain ⟨f1, f2⟩ := v.flush h
 have hfu := flushM_up m
 have hfd := flushM_data m
 unfold addM
 split
 ·rename_i hk
  unfold startM
  split
  ·exact v
  ·split
   ·exact v
   ·split
    ·refine ⟨?_, by show ∀ f ∈ (flushM m).up, _; rw [hfu]; exact v.up, by show HeadsV (addKid _ _) (flushM m).up; rw [hfu]; exact f2.add _, by show okL (flushM m).data; rw [hfd]; exact okL_nil⟩
     show okBs false (addKid _ _).kids = true
     rw [addKid_kids, okBs_snoc, f1, elem_notCD (k := elemN t []) rfl, head_ok (elem_head ht hk) rfl]
     cases lastC false (flushM m).top.kids <;> rfl
    ·refine ⟨rfl, ?_, ?_, by show okL (flushM m).data; rw [hfd]; exact okL_nil⟩
     ·show ∀ f ∈ (flushM m).top :: (flushM m).up, _
      rw [hfu]
      intro f hf
      rcases List.mem_cons.1 hf with rfl | hf
      ·exact f1
      ·exact v.up f hf
     ·show HeadV (elemN t []) ∧ HeadsV (flushM m).top (flushM m).up
      rw [hfu]
      exact ⟨elem_head ht hk, f2⟩
 ·split
  ·unfold endM
   split
   ·exact v
   ·split
    ·exact v
    ·rename_i h1 _
     show MacV (popM (flushM m))
     unfold popM
     cases hm : (flushM m).up with
     | nil => rw [hfu] at hm; exact absurd hm h1
     | cons f r =>
      rw [← hfu, hm] at f2
      have hup : ∀ x ∈ f :: r, okBs false x.kids = true := by rw [← hm, hfu]; exact v.up
      refine ⟨?_, fun x hx => hup x (List.mem_cons_of_mem _ hx), f2.2.add _, by show okL (flushM m).data; rw [hfd]; exact okL_nil⟩
      show okBs false (addKid _ _).kids = true
      rw [addKid_kids, okBs_snoc, hup f (by simp), elem_notCD f2.1.1, head_ok f2.1 f1]
      cases lastC false f.kids <;> rfl
  ·unfold textM
   split
   ·split <;> exact v
   ·exact ⟨v.top, v.up, v.heads, (okL_app _ _ v.data).2 ht.text⟩
theorem MacV.run : ∀ (l : List TokD) (m : Mac), MacV m → MOk m → (∀ t ∈ l, TkOk t) → MacV (runM m l).1
 | [], _, v, _, _ => v
 | t :: r, m, v, h, ht => by
  rw [runM]
  split
  ·exact v.next h (ht t (by simp))
  ·exact MacV.run r _ (v.next h (ht t (by simp))) (h.next t) fun x hx => ht x (List.mem_cons_of_mem _ hx)
theorem masses_app : ∀ l k : List NodeD, masses (l ++ k) = masses l + masses k
 | [], k => by rw [List.nil_append, masses, Nat.zero_add]
 | x :: r, k => by rw [List.cons_append, masses, masses, masses_app r k]; omega
theorem mass_add (k n : NodeD) : (addKid k n).mass = n.mass + k.mass := by
 cases n with | mk kd s nm al ks tx a =>
 show (NodeD.mk kd s nm al (ks ++ [k]) tx a).mass = _
 rw [NodeD.mass, NodeD.mass, masses_app, masses, masses]
 omega
def totM (m : Mac) : Nat := m.top.mass + masses m.up + m.data.length + (if m.data = [] then 0 else 1)
theorem totM_flush (m : Mac) : (flushM m).top.mass + masses m.up ≤ totM m := by
 unfold flushM totM
 split
 ·omega
 ·show (addKid _ _).mass + _ ≤ _
  rw [mass_add]
  have : (charK m.data m.dat).mass = 1 + m.data.length := by
   unfold charK
   rw [NodeD.mass, masses, oBz]
   have h1 : noB.size = 0 := rfl
   have h2 : (([] : List AttrD).map fun x => 1 + x.sp.size + x.nm.size + x.va.size).sum = 0 := rfl
   omega
  omega
theorem totM_add (m : Mac) (t : TokD) : totM (addM m t).1 ≤ totM m + tokM t := by
 have hf := totM_flush m
 have hfu := flushM_up m
 have hfd := flushM_data m
 have he : (elemN t []).mass = 1 + t.nm.length + sumA t.al := by
  unfold elemN sumA
  rw [NodeD.mass, masses, oBz]
  have h1 : noB.size = 0 := rfl
  omega
 have hz : ∀ (x : NodeD) (u : List NodeD) (d : Int), totM ⟨x, u, (flushM m).data, d⟩ = x.mass + masses u := by
  intro x u d
  unfold totM
  simp only
  rw [hfd]
  rfl
 unfold addM
 split
 ·rename_i hk
  have ht : tokM t = 1 + t.nm.length + t.tx.length + sumA t.al := by unfold tokM; rw [hk, if_neg (by decide)]
  unfold startM
  split
  ·show totM m ≤ _; omega
  ·split
   ·show totM m ≤ _; omega
   ·split
    ·show totM ⟨addKid _ _, (flushM m).up, (flushM m).data, _⟩ ≤ _
     rw [hz, mass_add, hfu]
     omega
    ·show totM ⟨elemN t [], (flushM m).top :: (flushM m).up, (flushM m).data, _⟩ ≤ _
     rw [hz, masses, hfu]
     omega
 ·split
  ·unfold endM
   split
   ·show totM m ≤ _; omega
   ·split
    ·show totM m ≤ _; omega
    ·show totM (popM (flushM m)) ≤ _
     unfold popM
     split
     ·rename_i hm
      have := hz (flushM m).top (flushM m).up (flushM m).dat
      rw [hfu] at this
      have h2 : totM (flushM m) = totM ⟨(flushM m).top, (flushM m).up, (flushM m).data, (flushM m).dat⟩ := rfl
      rw [h2, hfu, this]
      omega
     ·rename_i f r hm
      show totM ⟨addKid _ _, r, (flushM m).data, _⟩ ≤ _
      rw [hz, mass_add]
      rw [← hfu, hm, masses] at hf
      omega
  ·rename_i hk1 hk2
   have ht : tokM t = 1 + t.nm.length + t.tx.length + sumA t.al := by unfold tokM; rw [if_neg hk2]
   unfold textM
   split
   ·split <;> (show totM m ≤ _; omega)
   ·show totM ⟨m.top, m.up, m.data ++ t.tx, _⟩ ≤ _
    unfold totM
    simp only [List.length_append]
    split <;> split <;> omega
theorem totM_run : ∀ (l : List TokD) (m : Mac), totM (runM m l).1 ≤ totM m + tokMs l
 | [], m => by rw [runM]; exact Nat.le_add_right _ _
 | t :: r, m => by
  rw [runM]
  have h := totM_add m t
  have e : tokMs (t :: r) = tokM t + tokMs r := by unfold tokMs; rw [List.map_cons, List.sum_cons]
  rw [e]
  split
  ·show totM (addM m t).1 ≤ _; omega
  ·have := totM_run r (addM m t).1
   omega
theorem parse_good (s : ByteArray) (h : (parseP s).2.2 = 0) : (parseP s).1.goodB = true ∧ (parseP s).1.mass ≤ 2 * s.size + 1 := by
 obtain ⟨h1, h2, _, _⟩ := parse_normal s h
 obtain ⟨t1, t2⟩ := toksP_car s
 have key : (parseP s).1.okB = true ∧ (parseP s).1.mass ≤ 2 * s.size + 1 := by
  unfold parseP at h ⊢
  split
  ·rename_i g1
   rw [if_pos g1] at h
   exact absurd h g1
  ·rename_i g1
   rw [if_neg g1] at h
   split
   ·rename_i g2
    rw [if_pos g2] at h
    exact absurd h g2
   ·rename_i g2
    rw [if_neg g2] at h
    have hm := MacV.run (toksP s).1 mac0 MacV.start MOk.start t1
    have hs := totM_run (toksP s).1 mac0
    have h0 : totM mac0 = 1 := by
     unfold totM mac0 zeroN
     rw [NodeD.mass, masses, if_pos rfl]
     rfl
    rw [h0] at hs
    generalize (runM mac0 (toksP s).1).1 = m at *
    cases hu : m.up with
    | nil =>
     cases hk : m.top.kids with
     | nil => rw [hu, hk] at h; exact absurd (show (8 : Int) = 0 from h) (by decide)
     | cons k r =>
      have ht := hm.top
      rw [hk, okBs] at ht
      simp only [Bool.and_eq_true] at ht
      refine ⟨ht.1.1, ?_⟩
      have hmk := mass_kid m.top k (by rw [hk]; simp)
      unfold totM at hs
      show k.mass ≤ _
      omega
    | cons f r => rw [hu] at h; exact absurd (show (8 : Int) = 0 from h) (by decide)
 refine ⟨?_, key.2⟩
 unfold NodeD.goodB
 rw [decide_eq_true h1, decide_eq_true h2, key.1]
 rfl
end
end Go.Proofs.YtppmoeidgefkpaaGreatDoor
