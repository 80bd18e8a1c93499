/- Packed from the texts WrX WrY. -/
import Derived.Test.YtppmoeidgefkpaaGreatDoorWkB
import Derived.Test.YtppmoeidgefkpaaGreatDoorWkD
import Derived.Test.YtppmoeidgefkpaaGreatDoorWkM
set_option maxRecDepth 100000
namespace Go.Proofs.YtppmoeidgefkpaaGreatDoor
section
open Go.RowKit
theorem okL_ind {Q : List UInt8 → Prop} (h0 : Q []) (h1 : ∀ c b, c.toNat < 128 → isCharB (c.toNat : Int) = true → okL b → Q b → Q (c :: b)) (h2 : ∀ a b, okL a → (∀ x ∈ a, 128 ≤ x.toNat) → okL b → Q b → Q (a ++ b)) : ∀ (f : Nat) (l : List UInt8), l.length ≤ f → okL l → Q l
 | _, [], _, _ => h0
 | 0, c :: t, h, _ => by rw [List.length_cons] at h; omega
 | f + 1, c :: t, h, hl => by
  obtain ⟨a, b, e1, e2, e3, e4, e5⟩ := okL_head c t hl
  have hlen : b.length ≤ f := by
   have := congrArg List.length e1
   rw [List.length_append] at this
   omega
  have ih := okL_ind h0 h1 h2 f b hlen e4
  rcases e5 with ⟨rfl, e6, e7⟩ | e5
  ·rw [e1]; exact h1 c b e6 e7 e4 ih
  ·rw [e1]; exact h2 a b e3 e5 e4 ih
theorem okL_cut (a : List UInt8) (c : UInt8) (b : List UInt8) (h : okL (a ++ c :: b)) (hc : c.toNat < 128) : okL a ∧ okL b := by
 refine okL_ind (Q := fun l => ∀ a b, l = a ++ c :: b → okL a ∧ okL b) ?_ ?_ ?_ _ _ (Nat.le_refl _) h a b rfl
 ·intro a b e
  have := congrArg List.length e
  simp at this
 ·intro d r h1 h2 h3 ih a b e
  cases a with
  | nil =>
   rw [List.nil_append] at e
   injection e with e1 e2
   subst e1 e2
   exact ⟨okL_nil, h3⟩
  | cons x a =>
   rw [List.cons_append] at e
   injection e with e1 e2
   subst e1
   obtain ⟨i1, i2⟩ := ih a b e2
   exact ⟨(okL_app [d] a (okL_one d h1 h2)).2 i1, i2⟩
 ·intro p q h1 h2 h3 ih a b e
  rcases List.append_eq_append_iff.1 e with ⟨a', e1, e2⟩ | ⟨c', e1, e2⟩
  ·obtain ⟨i1, i2⟩ := ih a' b e2
   rw [e1]
   exact ⟨(okL_app p a' h1).2 i1, i2⟩
  ·cases c' with
   | nil =>
    rw [List.append_nil] at e1
    obtain ⟨i1, i2⟩ := ih [] b e2.symm
    rw [← e1]
    exact ⟨h1, i2⟩
   | cons y t =>
    rw [List.cons_append] at e2
    injection e2 with e3 e4
    have := h2 c (by rw [e1, e3]; simp)
    omega
theorem okL_cons (c : UInt8) (b : List UInt8) (hc : c.toNat < 128) (h : okL b) (hh : isCharB (c.toNat : Int) = true) : okL (c :: b) := (okL_app [c] b (okL_one c hc hh)).2 h
theorem linesP_high (a b : List UInt8) (h : ∀ x ∈ a, 128 ≤ x.toNat) : linesP (a ++ b) = a ++ linesP b := by
 induction a with
 | nil => rfl
 | cons c r ih =>
  have hc : c ≠ 13 := fun e => by have := h c (by simp); rw [e] at this; exact absurd this (by decide)
  rw [List.cons_append, linesP, if_neg (by simp [hc]), if_neg hc, ih fun x hx => h x (List.mem_cons_of_mem _ hx)]
  rfl
theorem okL_lines (l : List UInt8) (h : okL l) : okL (linesP l) := by
 refine okL_ind (Q := fun l => okL (linesP l)) okL_nil ?_ ?_ _ _ (Nat.le_refl _) h
 ·intro c b h1 h2 _ ih
  rw [linesP]
  split
  ·exact ih
  ·split
   ·exact okL_cons 10 _ (by decide) ih (by decide)
   ·exact okL_cons c _ h1 ih h2
 ·intro a b h1 h2 _ ih
  rw [linesP_high a b h2]
  exact (okL_app _ _ h1).2 ih
theorem spOne_high : ∀ n : Fin 256, 128 ≤ n.val → spOne (UInt8.ofNat n.val) = UInt8.ofNat n.val := by decide
theorem okL_sp (v : Bool) (l : List UInt8) (h : okL l) : okL (spMap v l) := by
 unfold spMap
 cases v
 ·exact h
 refine okL_ind (Q := fun l => okL (l.map spOne)) okL_nil ?_ ?_ _ _ (Nat.le_refl _) h
 ·intro c b h1 h2 _ ih
  rw [List.map_cons]
  unfold spOne at ih ⊢
  split
  ·exact okL_cons 32 _ (by decide) ih (by decide)
  ·exact okL_cons c _ h1 ih h2
 ·intro a b h1 h2 _ ih
  have e : a.map spOne = a := by
   refine (List.map_congr_left fun x hx => ?_).trans (List.map_id a)
   have := spOne_high ⟨x.toNat, x.toNat_lt⟩ (h2 x hx)
   rw [UInt8.ofNat_toNat] at this
   exact this
  show okL (List.map spOne (a ++ b))
  rw [List.map_append, e]
  exact (okL_app _ _ h1).2 ih
theorem okL_eb (r : Int) (h : isCharB r = true) : okL (eb r) := by
 have hr : 0 ≤ r ∧ r ≤ 1114111 ∧ ¬ (55296 ≤ r ∧ r ≤ 57343) := by
  unfold isCharB at h
  have := of_decide_eq_true h
  omega
 have key : ∀ (k : Nat) (bs : List Int), 1 ≤ k → k ≤ 4 → eb r = bs.map (fun n => UInt8.ofNat n.toNat) → bs.length = k → (∀ (hb : ∀ i (h : i < bs.length), byteZ (oB (eb r)) i = bs[i]), hitB (oB (eb r)) 0 k = true ∧ accZ (oB (eb r)) 0 k (k - 1) = r) → (∀ b ∈ bs, 0 ≤ b ∧ b < 256) → okL (eb r) := by
  intro k bs h1 h4 e hk hh hb
  have hz : (oB (eb r)).size = k := by rw [oBz, e, List.length_map, hk]
  obtain ⟨g1, g2⟩ := hh fun i hi => by
   rw [byteZ_get _ i (by rw [e, List.length_map]; exact hi)]
   simp only [e, List.getElem_map]
   have := hb _ (List.getElem_mem hi)
   rw [UInt8.toNat_ofNat']
   omega
  obtain ⟨d1, d2⟩ := dec_hit (oB (eb r)) 0 k h1 h4 (by omega) g1
  unfold okL chk
  rw [chkAt_eq _ 0 (by omega), d2, if_neg (by omega), d1, g2, if_pos h, chkAt_end _ _ (by omega)]
 unfold eb encZ at *
 rw [if_neg (by omega)] at key ⊢
 split
 ·rename_i h1
  rw [if_pos h1] at key
  refine key 1 [r] (by omega) (by omega) rfl rfl (fun hb => ?_) (by simp; omega)
  have b0 := hb 0 (by simp)
  simp only [List.getElem_cons_zero] at b0
  refine ⟨(hit1 _ 0 (by rw [oBz]; simp)).2 (by omega), ?_⟩
  rw [acc1, b0]
 ·rename_i h1
  rw [if_neg h1] at key
  split
  ·rename_i h2
   rw [if_pos h2] at key
   refine key 2 _ (by omega) (by omega) rfl rfl (fun hb => ?_) (by simp; omega)
   have b0 := hb 0 (by simp)
   have b1 := hb 1 (by simp)
   simp only [List.getElem_cons_zero, List.getElem_cons_succ] at b0 b1
   refine ⟨(hit2 _ 0 (by rw [oBz]; simp)).2 ?_, ?_⟩
   ·rw [Nat.zero_add, b0, b1]; omega
   ·rw [acc2, Nat.zero_add, b0, b1]; omega
  ·rename_i h2
   rw [if_neg h2] at key
   split
   ·rename_i h3
    rw [if_pos h3] at key
    refine key 3 _ (by omega) (by omega) rfl rfl (fun hb => ?_) (by simp; omega)
    have b0 := hb 0 (by simp)
    have b1 := hb 1 (by simp)
    have b2 := hb 2 (by simp)
    simp only [List.getElem_cons_zero, List.getElem_cons_succ] at b0 b1 b2
    refine ⟨(hit3 _ 0 (by rw [oBz]; simp)).2 ?_, ?_⟩
    ·rw [Nat.zero_add, Nat.zero_add, b0, b1, b2]; omega
    ·rw [acc3, Nat.zero_add, Nat.zero_add, b0, b1, b2]; omega
   ·rename_i h3
    rw [if_neg h3] at key
    refine key 4 _ (by omega) (by omega) rfl rfl (fun hb => ?_) (by simp; omega)
    have b0 := hb 0 (by simp)
    have b1 := hb 1 (by simp)
    have b2 := hb 2 (by simp)
    have b3 := hb 3 (by simp)
    simp only [List.getElem_cons_zero, List.getElem_cons_succ] at b0 b1 b2 b3
    refine ⟨(hit4 _ 0 (by rw [oBz]; simp)).2 ?_, ?_⟩
    ·rw [Nat.zero_add, Nat.zero_add, Nat.zero_add, b0, b1, b2, b3]; omega
    ·rw [acc4, Nat.zero_add, Nat.zero_add, Nat.zero_add, b0, b1, b2, b3]; omega
theorem ok_at (l : List UInt8) (a m : Nat) (c : UInt8) (h : okL (l.drop a)) (ha : a ≤ m) (hm : l[m]? = some c) (hc : c.toNat < 128) : okL ((l.drop a).take (m - a)) ∧ okL (l.drop (m + 1)) := by
 obtain ⟨hlt, e⟩ := List.getElem?_eq_some_iff.1 hm
 have h1 : l.drop a = (l.drop a).take (m - a) ++ c :: l.drop (m + 1) := by
  conv => lhs; rw [← List.take_append_drop (m - a) (l.drop a)]
  rw [List.drop_drop, show a + (m - a) = m by omega, List.drop_eq_getElem_cons hlt, e]
 rw [h1] at h
 exact okL_cut _ c _ h hc
theorem tw_cut : ∀ x : List UInt8, (tw x).length < x.length → x = tw x ++ 59 :: x.drop ((tw x).length + 1)
 | [], h => by simp at h
 | c :: r, h => by
  by_cases hc : c = 59
  ·subst hc; rw [tw_semi]; rfl
  ·rw [tw_cons c r hc] at h ⊢
   have := tw_cut r (by simpa using h)
   rw [List.cons_append, List.length_cons, List.drop_succ_cons, ← this]
theorem amp_cut : ∀ x : List UInt8, x = amp x ++ x.drop (amp x).length ∧ (x.drop (amp x).length = [] ∨ ∃ t, x.drop (amp x).length = 38 :: t)
 | [] => ⟨rfl, .inl rfl⟩
 | c :: r => by
  by_cases hc : c = 38
  ·subst hc; rw [amp_amp]; exact ⟨rfl, .inr ⟨r, rfl⟩⟩
  ·obtain ⟨h1, h2⟩ := amp_cut r
   rw [amp_cons c r hc, List.cons_append, List.length_cons, List.drop_succ_cons, ← h1]
   exact ⟨rfl, h2⟩
theorem ref_four (m : List UInt8) (i : Nat) (h : (refAt m i).2.2 = 0) : ∃ (r : Int) (j : Nat), refAt m i = (r, (j : Int), 0) ∧ isCharB r = true ∧ i + 4 ≤ j ∧ j ≤ m.length ∧ m[j - 1]? = some 59 := by
 unfold refAt at h ⊢
 split at h
 ·rename_i h1
  rw [if_pos h1]
  split at h
  ·rename_i h2
   rw [if_pos h2]
   have h3 : 2 ≤ (tw (m.drop (i + 1))).length := by
    rcases Nat.lt_or_ge (tw (m.drop (i + 1))).length 2 with hl | hl
    ·exfalso
     generalize tw (m.drop (i + 1)) = x at *
     have : refNum x = -1 := by
      unfold refNum namedP
      rw [if_neg (by omega)]
      match x, hl with
      | [], _ => rfl
      | [a], _ => simp
     rw [this] at h2
     exact absurd h2 (by decide)
    ·exact hl
   refine ⟨_, _, rfl, h2, by omega, by omega, ?_⟩
   have hl : (tw (m.drop (i + 1))).length < (m.drop (i + 1)).length := by rw [List.length_drop]; omega
   have he := tw_cut _ hl
   have hg : (m.drop (i + 1))[(tw (m.drop (i + 1))).length]? = some 59 := by
    generalize tw (m.drop (i + 1)) = x at *
    rw [he, List.getElem?_append_right (Nat.le_refl _), Nat.sub_self]; rfl
   rw [List.getElem?_drop] at hg
   rw [← hg]
   congr 1
  ·exact absurd h (by decide)
 ·exact absurd h (by decide)
theorem contF_car (l : List UInt8) (j : Nat) (v : Bool) (hj : j ≤ l.length) : ∀ f i out, i ≤ j → okL ((l.take j).drop i) → okL out → (contF l j v f i out).2.2 = 0 → okL (contF l j v f i out).1 ∧ (contF l j v f i out).1.length + i ≤ out.length + j
 | 0, i, out, hi, _, ho, _ => ⟨ho, by show out.length + i ≤ _; omega⟩
 | f + 1, i, out, hi, h, ho, h0 => by
  rw [contF] at h0 ⊢
  split
  ·rename_i hlt
   rw [if_pos hlt] at h0
   have htl : (l.take j).length = j := by rw [List.length_take]; omega
   split
   ·rename_i hc
    rw [if_pos hc] at h0
    split
    ·rename_i hr
     rw [if_pos hr] at h0
     obtain ⟨r, k, e, hr1, hk, hkj, hs⟩ := ref_four (l.take j) i hr
     rw [e] at h0 ⊢
     simp only [Int.toNat_natCast] at h0 ⊢
     rw [htl] at hkj
     have hd := (ok_at (l.take j) i (k - 1) 59 h (by omega) hs (by decide)).2
     rw [show k - 1 + 1 = k by omega] at hd
     have ih := contF_car l j v hj f k (out ++ eb r) hkj hd ((okL_app _ _ ho).2 (okL_eb r hr1)) h0
     refine ⟨ih.1, ?_⟩
     have h2 := ih.2
     have h3 := eb_len r
     rw [List.length_append] at h2
     omega
    ·rename_i hr
     rw [if_neg hr] at h0
     exact absurd h0 hr
   ·rename_i hc
    rw [if_neg hc] at h0
    have hX : (l.drop i).take (j - i) = (l.take j).drop i := by rw [List.drop_take]
    have hch : chunk l i j = amp ((l.take j).drop i) := by unfold chunk; rw [hX]
    obtain ⟨e1, e2⟩ := amp_cut ((l.take j).drop i)
    have hl := amp_len ((l.take j).drop i)
    rw [List.length_drop, htl] at hl
    have hda : ((l.take j).drop i).drop (amp ((l.take j).drop i)).length = (l.take j).drop (i + (amp ((l.take j).drop i)).length) := by rw [List.drop_drop]
    rw [hch] at h0 ⊢
    have hh : okL (amp ((l.take j).drop i)) ∧ okL ((l.take j).drop (i + (amp ((l.take j).drop i)).length)) := by
     rw [← hda]
     generalize amp ((l.take j).drop i) = A at *
     rcases e2 with e2 | ⟨t, e2⟩
     ·rw [e2] at e1 ⊢
      rw [List.append_nil] at e1
      exact ⟨e1 ▸ h, okL_nil⟩
     ·rw [e2] at e1 ⊢
      rw [e1] at h
      obtain ⟨g1, g2⟩ := okL_cut _ 38 _ h (by decide)
      exact ⟨g1, okL_cons 38 _ (by decide) g2 (by decide)⟩
    generalize amp ((l.take j).drop i) = A at *
    have ih := contF_car l j v hj f (i + A.length) (out ++ spMap v (linesP A)) (by omega) hh.2 ((okL_app _ _ ho).2 (okL_sp v _ (okL_lines _ hh.1))) h0
    refine ⟨ih.1, ?_⟩
    have h2 := ih.2
    have h3 := linesP_len A
    rw [List.length_append, spMap_len] at h2
    omega
  ·rename_i hlt
   exact ⟨ho, by show out.length + i ≤ _; omega⟩
theorem contP_car (l : List UInt8) (i j : Nat) (v : Bool) (hi : i ≤ j) (hj : j ≤ l.length) (h : okL ((l.drop i).take (j - i))) (h0 : (contP l i j v).2.2 = 0) : okL (contP l i j v).1 ∧ (contP l i j v).1.length + i ≤ j := by
 have := contF_car l j v hj (j + 1) i [] hi (by rw [List.drop_take]; exact h) okL_nil h0
 exact ⟨this.1, by have := this.2; rw [List.length_nil] at this; unfold contP; omega⟩
end
section
open Go.RowKit
theorem index_has : ∀ (l t : List UInt8), Lib.index l t ≠ -1 → ∃ k : Nat, Lib.index l t = (k : Int) ∧ t.isPrefixOf (l.drop k) = true
 | [], t, h => by
  rw [Lib.index] at h ⊢
  split
  ·rename_i he
   rw [List.isEmpty_iff.1 he]
   exact ⟨0, rfl, rfl⟩
  ·rename_i he
   rw [if_neg he] at h; exact absurd rfl h
 | b :: l, t, h => by
  rw [Lib.index] at h ⊢
  by_cases hp : t.isPrefixOf (b :: l) = true
  ·rw [if_pos hp]; exact ⟨0, rfl, hp⟩
  ·rw [if_neg hp] at h ⊢
   by_cases hm : (Lib.index l t == -1) = true
   ·simp only [hm, if_true] at h; exact absurd rfl h
   ·have hm2 : Lib.index l t ≠ -1 := by simpa using hm
    obtain ⟨k, e, hk⟩ := index_has l t hm2
    refine ⟨k + 1, ?_, by rw [List.drop_succ_cons]; exact hk⟩
    simp only [hm]
    rw [e]; simp
theorem nextP_has (l : List UInt8) (i : Nat) (t : List UInt8) (h : ¬ nextP l i t < 0) : ∃ k : Nat, nextP l i t = (k : Int) ∧ i ≤ k ∧ hasP l (k : Int) t = true := by
 unfold nextP at h ⊢
 by_cases hm : Lib.index (l.drop i) t = -1
 ·rw [if_pos hm] at h; exact absurd (by decide) h
 ·obtain ⟨k, e, hk⟩ := index_has _ _ hm
  rw [if_neg hm, e]
  refine ⟨i + k, by omega, by omega, ?_⟩
  rw [List.drop_drop] at hk
  rw [← pre_has]
  exact hk
theorem hasP_get {l : List UInt8} {k : Nat} {t : List UInt8} (h : hasP l (k : Int) t = true) (j : Nat) (c : UInt8) (hj : t[j]? = some c) : l[k + j]? = some c := by
 rw [← pre_has] at h
 obtain ⟨r, e⟩ := List.isPrefixOf_iff_prefix.1 h
 rw [← List.getElem?_drop, ← e, List.getElem?_append_left (List.getElem?_eq_some_iff.1 hj).1]
 exact hj
theorem skip_car (l : List UInt8) (i n : Nat) (t : List UInt8) (h : (skipP l i n t).2 = 0) : ∃ k : Nat, (skipP l i n t).1 = ((k + t.length : Nat) : Int) ∧ i + n ≤ k ∧ hasP l (k : Int) t = true := by
 unfold skipP at h ⊢
 split at h
 ·simp at h
 ·rename_i h1
  rw [if_neg h1]
  obtain ⟨k, e, h2, h3⟩ := nextP_has l (i + n) t h1
  exact ⟨k, by rw [e]; simp, h2, h3⟩
theorem ok_end {l : List UInt8} {i k : Nat} {t : List UInt8} (h : okL (l.drop i)) (hi : i ≤ k) (hp : hasP l (k : Int) t = true) (c : UInt8) (ht : t.getLast? = some c) (hc : c.toNat < 128) : okL (l.drop (k + t.length)) := by
 have h0 : t ≠ [] := fun e => by rw [e] at ht; cases ht
 have h1 : 0 < t.length := List.length_pos_iff.2 h0
 rw [List.getLast?_eq_getElem?] at ht
 have := (ok_at l i (k + (t.length - 1)) c h (by omega) (hasP_get hp _ c ht) hc).2
 rw [show k + (t.length - 1) + 1 = k + t.length by omega] at this
 exact this
theorem run_stop (q : UInt8 → Bool) : ∀ l : List UInt8, (l.takeWhile q).length < l.length → ∃ c, l[(l.takeWhile q).length]? = some c ∧ q c = false
 | [], h => by simp at h
 | c :: r, h => by
  by_cases hc : q c = true
  ·rw [List.takeWhile_cons, if_pos hc] at h ⊢
   obtain ⟨d, h1, h2⟩ := run_stop q r (by simpa using h)
   exact ⟨d, by rw [List.length_cons, List.getElem?_cons_succ]; exact h1, h2⟩
  ·rw [List.takeWhile_cons, if_neg hc]
   exact ⟨c, rfl, by simpa using hc⟩
theorem quoAt_stop (l : List UInt8) (x : UInt8) (p : Nat) (h : quoAt l x p < l.length) : l[quoAt l x p]? = some x ∨ l[quoAt l x p]? = some 60 := by
 unfold quoAt at h ⊢
 obtain ⟨c, h1, h2⟩ := run_stop (fun c => c != x && c != 60) (l.drop p) (by rw [List.length_drop]; omega)
 rw [List.getElem?_drop] at h1
 rw [h1]
 by_cases e : c = x
 ·exact .inl (by rw [e])
 ·refine .inr ?_
  simp [e] at h2
  rw [h2]
theorem nmF_q (s : ByteArray) (i : Nat) : ∀ f k, (k = i ∨ isQB (s.extract i k) = true) → (nmF s i f k = i ∨ isQB (s.extract i (nmF s i f k)) = true)
 | 0, k, h => h
 | f + 1, k, h => by
  rw [nmF]
  split
  ·split
   ·exact h
   ·split
    ·rename_i hq
     exact nmF_q s i f _ (.inr hq)
    ·exact h
  ·exact h
theorem nm_q (s : ByteArray) (a : Nat) (h : ¬ nmP s a = a) : isQB (oB ((s.data.toList.drop a).take (nmP s a - a))) = true := by
 rw [← tok_ext]
 rcases nmF_q s a (s.size + 1) a (.inl rfl) with h1 | h1
 ·exact absurd h1 h
 ·exact h1
theorem attrP_car (s : ByteArray) (b i a : Nat) (hb : okL (s.data.toList.drop b)) (hba : b ≤ a) (ha : a ≤ s.size) (h : (attrP s i a).2.2 = 0) : ∃ z : Nat, (attrP s i a).2.1 = (z : Int) ∧ isQB (oB (attrP s i a).1.1) = true ∧ okL (attrP s i a).1.2 ∧ a + (attrP s i a).1.1.length + (attrP s i a).1.2.length + 3 ≤ z ∧ z ≤ s.size := by
 have hsl : s.data.toList.length = s.size := by simp
 have a4 : ∀ N m e (x : UInt8), x.toNat < 128 → s.data.toList[m]? = some x → e = quoAt s.data.toList x (m + 1) → b ≤ m → (attr4 s i N e (contP s.data.toList (m + 1) e true)).2.2 = 0 →
   ∃ z : Nat, (attr4 s i N e (contP s.data.toList (m + 1) e true)).2.1 = (z : Int) ∧ (attr4 s i N e (contP s.data.toList (m + 1) e true)).1.1 = N ∧ okL (attr4 s i N e (contP s.data.toList (m + 1) e true)).1.2 ∧ m + (attr4 s i N e (contP s.data.toList (m + 1) e true)).1.2.length + 2 ≤ z ∧ z ≤ s.size := by
  intro N m e x hx hm he hbm h
  have hml := (List.getElem?_eq_some_iff.1 hm).1
  have hq := quoAt_le s.data.toList x (m + 1) (by omega)
  rw [← he] at hq
  have hst := quoAt_stop s.data.toList x (m + 1)
  rw [← he] at hst
  unfold attr4 at h ⊢
  split at h
  ·rename_i h1; exact absurd h h1
  ·rename_i h1
   rw [if_neg h1]
   split at h
   ·exact absurd h (by simp)
   ·rename_i h2
    rw [if_neg h2]
    split at h
    ·exact absurd h (by simp)
    ·rename_i h3
     rw [if_neg h3]
     have hel : e < s.data.toList.length := by omega
     have hy : s.data.toList[e]? = some x := by
      rcases hst hel with g | g
      ·exact g
      ·exact absurd (by rw [List.getD_eq_getElem?_getD, g]; rfl) h3
     have hd := (ok_at s.data.toList b m x hb hbm hm hx).2
     have ht := (ok_at s.data.toList (m + 1) e x hd (by omega) hy hx).1
     have hc := contP_car s.data.toList (m + 1) e true (by omega) (by omega) ht (by simpa using h1)
     exact ⟨e + 1, by simp, rfl, hc.1, by have := hc.2; show m + (contP s.data.toList (m + 1) e true).1.length + 2 ≤ e + 1; omega, by omega⟩
 rw [attrP_def] at h ⊢
 have hn := nmP_le s a ha
 split at h
 ·exact absurd h (misP_ne _ _ _)
 ·rename_i h1
  rw [if_neg h1]
  have hQ := nm_q s a h1
  have hNl : ((s.data.toList.drop a).take (nmP s a - a)).length = nmP s a - a := by rw [List.length_take, List.length_drop]; omega
  generalize (s.data.toList.drop a).take (nmP s a - a) = N at *
  generalize nmP s a = n at *
  have hk := spP_le s.data.toList n (by omega)
  generalize spP s.data.toList n = k at *
  unfold attr1 at h ⊢
  split at h
  ·rename_i h2
   rw [if_pos h2]
   obtain ⟨hkl, _⟩ := hasP_one _ _ _ h2
   have hm := spP_le s.data.toList (k + 1) (by omega)
   generalize spP s.data.toList (k + 1) = m at *
   unfold attr2 at h ⊢
   split at h
   ·rename_i h3
    rw [if_pos h3]
    obtain ⟨hml, hme⟩ := hasP_one _ _ _ h3
    obtain ⟨z, g1, g2, g3, g4, g5⟩ := a4 N m _ 34 (by decide) (by rw [List.getElem?_eq_getElem hml, hme]) rfl (by omega) h
    exact ⟨z, g1, by unfold attr3; rw [g2]; exact hQ, g3, by unfold attr3; rw [g2]; omega, g5⟩
   ·rename_i h3
    rw [if_neg h3]
    split at h
    ·rename_i h4
     rw [if_pos h4]
     obtain ⟨hml, hme⟩ := hasP_one _ _ _ h4
     obtain ⟨z, g1, g2, g3, g4, g5⟩ := a4 N m _ 39 (by decide) (by rw [List.getElem?_eq_getElem hml, hme]) rfl (by omega) h
     exact ⟨z, g1, by unfold attr3; rw [g2]; exact hQ, g3, by unfold attr3; rw [g2]; omega, g5⟩
    ·exact absurd h (misP_ne _ _ _)
  ·exact absurd h (misP_ne _ _ _)
def sumA (l : List AttrD) : Nat := (l.map fun x => 1 + x.sp.size + x.nm.size + x.va.size).sum
theorem sumA_snoc (l : List AttrD) (x : AttrD) : sumA (l ++ [x]) = sumA l + (1 + x.sp.size + x.nm.size + x.va.size) := by unfold sumA; simp
theorem attrsOk_snoc (x : AttrD) : ∀ (l done : List AttrD), attrsOk done (l ++ [x]) = (attrsOk done l && (attrOk x && !inNms x.nm (done ++ l)))
 | [], done => by rw [List.nil_append, attrsOk, attrsOk, attrsOk, List.append_nil]; simp
 | y :: r, done => by
  rw [List.cons_append, attrsOk, attrsOk_snoc x r (done ++ [y]), attrsOk, List.append_assoc]
  simp only [Bool.and_assoc]
  rfl
theorem charsB_of (l : List UInt8) (h : okL l) : charsB (oB l) = true := by
 unfold charsB
 exact beq_iff_eq.2 h
theorem startGo_car (s : ByteArray) (b i : Nat) (N : List UInt8) (hb : okL (s.data.toList.drop b)) : ∀ f a acc, s.size - a < f → b ≤ a → a ≤ s.size → attrsOk [] acc = true → (startGo s i N f a acc).p2 = 0 →
  ∃ z : Nat, (startGo s i N f a acc).p1 = (z : Int) ∧ okL (s.data.toList.drop z) ∧ attrsOk [] (startGo s i N f a acc).al = true ∧ (startGo s i N f a acc).nm = N ∧ sumA (startGo s i N f a acc).al + a + 1 ≤ sumA acc + z
 | 0, a, acc, hf, _, _, _, _ => absurd hf (by omega)
 | f + 1, a, acc, hf, hba, ha, hok, h => by
  have hsl : s.data.toList.length = s.size := by simp
  rw [startGo] at h ⊢
  have hk := spP_le s.data.toList a (by omega)
  rw [hsl] at hk
  generalize spP s.data.toList a = m at *
  split
  ·rename_i h1
   exact ⟨m + 1, by simp, ok_end hb (by omega) h1 62 rfl (by decide), hok, rfl, by show sumA acc + a + 1 ≤ _; omega⟩
  ·rename_i h1
   rw [if_neg h1] at h
   split
   ·rename_i h2
    exact ⟨m + 2, by simp, ok_end hb (by omega) h2 62 rfl (by decide), hok, rfl, by show sumA acc + a + 1 ≤ _; omega⟩
   ·rename_i h2
    rw [if_neg h2] at h
    split
    ·rename_i h3
     rw [if_pos h3] at h
     exact absurd h (misP_ne _ _ _)
    ·rename_i h3
     rw [if_neg h3] at h
     split
     ·rename_i h4
      rw [if_pos h4] at h
      exact absurd h (misP_ne _ _ _)
     ·rename_i h4
      rw [if_neg h4] at h
      split
      ·rename_i h5
       rw [if_pos h5] at h
       exact absurd h h5
      ·rename_i h5
       rw [if_neg h5] at h
       obtain ⟨z, hz, g1, g2, g3, g4⟩ := attrP_car s b i m hb (by omega) (by omega) (by simpa using h5)
       split
       ·rename_i h6
        rw [if_pos h6] at h
        simp at h
       ·rename_i h6
        rw [if_neg h6] at h
        rw [hz, Int.toNat_natCast] at h ⊢
        have hno : attrsOk [] (acc ++ [attrOf (attrP s i m).1.1 (attrP s i m).1.2 m]) = true := by
         rw [attrsOk_snoc, hok, List.nil_append]
         have e1 : attrOk (attrOf (attrP s i m).1.1 (attrP s i m).1.2 m) = true := by
          unfold attrOk attrOf
          rw [g1, charsB_of _ g2]; rfl
         have e2 : inNms (attrOf (attrP s i m).1.1 (attrP s i m).1.2 m).nm acc = false := by
          unfold inNms
          rw [List.any_eq_false]
          intro x hx
          rw [decide_eq_true_eq]
          exact fun e => h6 ⟨x, hx, e⟩
         rw [e1, e2]; rfl
        obtain ⟨y, j1, j2, j3, j4, j5⟩ := startGo_car s b i N hb f z _ (by omega) (by omega) g4 hno h
        refine ⟨y, j1, j2, j3, j4, ?_⟩
        rw [sumA_snoc] at j5
        have : (attrOf (attrP s i m).1.1 (attrP s i m).1.2 m).sp.size = 0 := rfl
        have hn1 : (attrOf (attrP s i m).1.1 (attrP s i m).1.2 m).nm.size = (attrP s i m).1.1.length := oBz _
        have hv1 : (attrOf (attrP s i m).1.1 (attrP s i m).1.2 m).va.size = (attrP s i m).1.2.length := oBz _
        omega
structure TkOk (t : TokD) : Prop where
 name : t.kind = 1 → isQB (oB t.nm) = true ∧ attrsOk [] t.al = true
 text : okL t.tx
def tokM (t : TokD) : Nat := if t.kind = 2 then 0 else 1 + t.nm.length + t.tx.length + sumA t.al
theorem ok_data (s : ByteArray) (i : Nat) (hi : i ≤ s.size) (h : okL (s.data.toList.drop i)) : okL ((s.data.toList.drop i).take (dataEnd s i - i)) ∧ okL (s.data.toList.drop (dataEnd s i)) := by
 have hsl : s.data.toList.length = s.size := by simp
 unfold dataEnd
 split
 ·have e : s.data.toList.drop s.size = [] := List.drop_eq_nil_of_le (by omega)
  rw [List.take_of_length_le (by rw [List.length_drop]; omega), e]
  exact ⟨h, okL_nil⟩
 ·rename_i h1
  obtain ⟨k, e, h2, h3⟩ := nextP_has _ _ _ h1
  rw [e, Int.toNat_natCast]
  have h4 := hasP_get h3 0 60 rfl
  rw [Nat.add_zero] at h4
  obtain ⟨g1, g2⟩ := ok_at _ i k 60 h h2 h4 (by decide)
  refine ⟨g1, ?_⟩
  obtain ⟨hl, e4⟩ := List.getElem?_eq_some_iff.1 h4
  rw [List.drop_eq_getElem_cons hl, e4]
  exact okL_cons 60 _ (by decide) g2 (by decide)
theorem consP_car (s : ByteArray) (i : Nat) (hi : i < s.size) (hb : okL (s.data.toList.drop i)) (h : (consP s i).2.2 = 0) : ∃ z : Nat, (consP s i).2.1 = (z : Int) ∧ okL (s.data.toList.drop z) ∧ TkOk (consP s i).1 ∧ tokM (consP s i).1 + 2 * i ≤ 2 * z := by
 have hsl : s.data.toList.length = s.size := by simp
 have hTT : ∀ (a : Int), tokM (tokT [] a) = 1 := fun a => rfl
 unfold consP at h ⊢
 split
 ·rename_i h1
  rw [if_pos h1] at h
  obtain ⟨k, e, h2, h3⟩ := skip_car _ _ _ _ h
  exact ⟨_, e, ok_end hb (by omega) h3 62 rfl (by decide), ⟨fun e => (by cases e), okL_nil⟩, by show tokM (tokT [] 0) + 2 * i ≤ _; rw [hTT]; omega⟩
 ·rename_i h1
  rw [if_neg h1] at h
  split
  ·rename_i h2
   rw [if_pos h2] at h
   obtain ⟨k, e, h2, h3⟩ := skip_car _ _ _ _ h
   exact ⟨_, e, ok_end hb (by omega) h3 62 rfl (by decide), ⟨fun e => (by cases e), okL_nil⟩, by show tokM (tokT [] 0) + 2 * i ≤ _; rw [hTT]; omega⟩
  ·rename_i h2
   rw [if_neg h2] at h
   split
   ·rename_i h3
    rw [if_pos h3] at h
    unfold cdataP at h ⊢
    split
    ·rename_i h4
     rw [if_pos h4] at h
     exact absurd h h4
    ·rename_i h4
     obtain ⟨k, e, h5, h6⟩ := skip_car _ _ _ _ (by simpa using h4)
     refine ⟨_, e, ok_end hb (by omega) h6 62 rfl (by decide), ?_, ?_⟩
     ·refine ⟨fun e => (by cases e), ?_⟩
      show okL (linesP _)
      apply okL_lines
      rw [e, Int.toNat_natCast]
      have h7 := (ok_at _ i (i + 8) 91 hb (by omega) (hasP_get h3 8 91 rfl) (by decide)).2
      have h8 := hasP_get h6 0 93 rfl
      rw [Nat.add_zero] at h8
      have h9 := (ok_at _ (i + 9) k 93 h7 h5 h8 (by decide)).1
      exact h9
     ·rw [e, Int.toNat_natCast]
      show 1 + 0 + (linesP ((s.data.toList.drop (i + 9)).take (k + 3 - 3 - (i + 9)))).length + 0 + 2 * i ≤ 2 * (k + 3)
      have := linesP_len ((s.data.toList.drop (i + 9)).take (k + 3 - 3 - (i + 9)))
      rw [List.length_take] at this
      omega
   ·rename_i h3
    rw [if_neg h3] at h
    split
    ·rename_i h4
     rw [if_pos h4] at h
     simp at h
    ·rename_i h4
     rw [if_neg h4] at h
     split
     ·rename_i h5
      rw [if_pos h5] at h
      simp at h
     ·rename_i h5
      rw [if_neg h5] at h
      split
      ·rename_i h6
       rw [if_pos h6] at h
       have hl := hasP_len h6 (by decide)
       rw [hsl] at hl
       obtain ⟨z, hz, hz1, hz2⟩ := endP_ok s i hl h
       refine ⟨z, hz, ?_, ⟨fun e => (by cases e), okL_nil⟩, by show 0 + 2 * i ≤ 2 * z; omega⟩
       simp only at h hz
       rw [endP_def] at h hz
       have hbn := nmP_le s (i + 2) hl
       generalize nmP s (i + 2) = n at *
       have hk := spP_le s.data.toList n (by omega)
       generalize spP s.data.toList n = k at *
       split at h
       ·exact absurd h (misP_ne _ _ _)
       ·rename_i h7
        rw [if_neg h7] at hz
        split at h
        ·rename_i h8
         rw [if_pos h8] at hz
         have hzk : z = k + 1 := by simp only at hz; omega
         rw [hzk]
         exact ok_end hb (by omega) h8 62 rfl (by decide)
        ·exact absurd h (misP_ne _ _ _)
      ·rename_i h6
       rw [if_neg h6] at h
       split
       ·rename_i h7
        rw [if_pos h7] at h
        have hl := hasP_len h7 (by decide)
        rw [hsl] at hl
        simp only at h ⊢
        unfold startP at h ⊢
        have hbn := nmP_le s (i + 1) hl
        split at h
        ·exact absurd h (misP_ne _ _ _)
        ·rename_i h8
         rw [if_neg h8]
         have hQ := nm_q s (i + 1) h8
         have hNl : ((s.data.toList.drop (i + 1)).take (nmP s (i + 1) - (i + 1))).length = nmP s (i + 1) - (i + 1) := by rw [List.length_take, List.length_drop]; omega
         obtain ⟨z, g1, g2, g3, g4, g5⟩ := startGo_car s i i ((s.data.toList.drop (i + 1)).take (nmP s (i + 1) - (i + 1))) hb _ _ [] (by omega) (by omega) hbn.2 rfl h
         refine ⟨z, g1, g2, ⟨fun _ => ⟨by rw [g4]; exact hQ, g3⟩, okL_nil⟩, ?_⟩
         show 1 + (startGo s i _ _ _ []).nm.length + 0 + sumA (startGo s i _ _ _ []).al + 2 * i ≤ 2 * z
         rw [g4, hNl]
         have : sumA [] = 0 := rfl
         omega
       ·rename_i h7
        rw [if_neg h7] at h
        unfold dataP at h ⊢
        have hd := dataEnd_bd s i (by omega)
        obtain ⟨d1, d2⟩ := ok_data s i (by omega) hb
        have hc := contP_car s.data.toList i (dataEnd s i) false hd.1 (by omega) d1 h
        have hm := nextP_miss s.data.toList i [60] (by omega) (by simpa using h7)
        have hn := nextP_bd s.data.toList (i + 1) [60]
        have hlt : i < dataEnd s i := by
         unfold dataEnd
         rw [hm]
         split <;> omega
        refine ⟨dataEnd s i, contP_ok _ _ _ _ h, d2, ⟨fun e => (by cases e), hc.1⟩, ?_⟩
        show 1 + 0 + (contP s.data.toList i (dataEnd s i) false).1.length + 0 + 2 * i ≤ 2 * dataEnd s i
        have := hc.2
        omega
def tokMs (l : List TokD) : Nat := (l.map tokM).sum
theorem tokMs_snoc (l : List TokD) (t : TokD) : tokMs (l ++ [t]) = tokMs l + tokM t := by unfold tokMs; simp
theorem tokGo_car (s : ByteArray) : ∀ f a acc, a ≤ s.size → okL (s.data.toList.drop a) → (∀ t ∈ acc, TkOk t) → (∀ t ∈ (tokGo s f a acc).1, TkOk t) ∧ tokMs (tokGo s f a acc).1 + 2 * a ≤ tokMs acc + 2 * s.size
 | 0, a, acc, ha, _, h => ⟨h, by show tokMs acc + _ ≤ _; omega⟩
 | f + 1, a, acc, ha, hb, h => by
  rw [tokGo]
  split
  ·rename_i hlt
   split
   ·exact ⟨fun t ht => (by cases ht), by show 0 + _ ≤ _; omega⟩
   ·rename_i h0
    obtain ⟨z, hz, g1, g2, g3⟩ := consP_car s a hlt hb (by simpa using h0)
    obtain ⟨y, hy, y1, y2⟩ := consP_ok s a hlt (by simpa using h0)
    have hyz : y = z := by omega
    subst hyz
    rw [hz, Int.toNat_natCast]
    split
    ·have ih := tokGo_car s f y (acc ++ [(consP s a).1]) y2 g1 (fun t ht => by
      rcases List.mem_append.1 ht with q | q
      ·exact h t q
      ·rw [List.mem_singleton.1 q]; exact g2)
     rw [tokMs_snoc] at ih
     exact ⟨ih.1, by have := ih.2; omega⟩
    ·have ih := tokGo_car s f y acc y2 g1 h
     exact ⟨ih.1, by have := ih.2; omega⟩
  ·exact ⟨h, by show tokMs acc + _ ≤ _; omega⟩
theorem toksP_car (s : ByteArray) : (∀ t ∈ (toksP s).1, TkOk t) ∧ tokMs (toksP s).1 ≤ 2 * s.size := by
 have hsl : s.data.toList.length = s.size := by simp
 unfold toksP
 split
 ·exact ⟨fun t ht => (by cases ht), Nat.zero_le _⟩
 ·rename_i h0
  have hok := okL_of s (by simpa using h0)
  split
  ·rename_i h1
   have hl := hasP_len (i := 0) h1 (by decide)
   simp only [List.length_cons, List.length_nil] at hl
   obtain ⟨r, e⟩ := List.isPrefixOf_iff_prefix.1 ((pre_has s.data.toList [239, 187, 191] 0).trans h1)
   rw [List.drop_zero] at e
   have hd : s.data.toList.drop 3 = r := by rw [← e]; rfl
   have hr : okL r := by
    rw [← e] at hok
    exact (okL_app [239, 187, 191] r (by unfold okL; decide +kernel)).1 hok
   have := tokGo_car s (s.size + 1) 3 [] (by omega) (by rw [hd]; exact hr) (fun t ht => by cases ht)
   exact ⟨this.1, by have h2 := this.2; have : tokMs [] = 0 := rfl; omega⟩
  ·have := tokGo_car s (s.size + 1) 0 [] (by omega) hok (fun t ht => by cases ht)
   exact ⟨this.1, by have h2 := this.2; have : tokMs [] = 0 := rfl; omega⟩
end
end Go.Proofs.YtppmoeidgefkpaaGreatDoor
