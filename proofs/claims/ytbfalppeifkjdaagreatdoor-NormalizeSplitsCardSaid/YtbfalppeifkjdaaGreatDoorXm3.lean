/- Packed from the texts NmI NmJ NnD NmL NmK. -/
import Derived.Test.YtbfalppeifkjdaaGreatDoorXkZ
import Derived.Test.YtbfalppeifkjdaaGreatDoorXl2
import Derived.Test.YtbfalppeifkjdaaGreatDoorXm2
import Derived.Maps.Own
import Derived.Maps.Range
import Derived.Maps.RangeWalk
import Derived.Maps.Views
import Derived.Deep.AppendLies
import Derived.Sort.Grow
import Derived.Shelf.SlSortCmp.WholeK
section
namespace Go.Proofs.YtbfalppeifkjdaaGreatDoor
section
variable {α β : Type} [DecidableEq β] {key : α → β} {c : α → α → Int} {mg : α → α → α}
def grpG (key : α → β) (l : List α) (k : β) : List α := l.filter fun x => decide (key x = k)
theorem grpG_app (l m : List α) (k : β) : grpG key (l ++ m) k = grpG key l k ++ grpG key m k := List.filter_append ..
theorem grpG_one (x : α) (k : β) : grpG key [x] k = if key x = k then [x] else [] := by
  unfold grpG
  by_cases h : key x = k
  · rw [if_pos h, List.filter_cons_of_pos (by simpa using h)]; rfl
  · rw [if_neg h, List.filter_cons_of_neg (by simpa using h)]; rfl
theorem mem_grpG (l : List α) (k : β) (x : α) : x ∈ grpG key l k ↔ x ∈ l ∧ key x = k := by unfold grpG; simp
def lateG (mg : α → α → α) : List α → Option α
  | [] => none
  | x :: r => some (r.foldl mg x)
omit [DecidableEq β] in
theorem lateG_none (l : List α) : lateG mg l = none ↔ l = [] := by cases l <;> simp [lateG]
theorem foldl_mg (ha : ∀ a b c, mg (mg a b) c = mg a (mg b c)) : ∀ (r : List α) (a x : α), r.foldl mg (mg a x) = mg a (r.foldl mg x)
  | [], _, _ => rfl
  | y :: r, a, x => by
    show r.foldl mg (mg (mg a x) y) = mg a (r.foldl mg (mg x y))
    rw [ha, foldl_mg ha r]
theorem lateG_app (ha : ∀ a b c, mg (mg a b) c = mg a (mg b c)) {l m : List α} {x y : α} (hl : lateG mg l = some x) (hm : lateG mg m = some y) : lateG mg (l ++ m) = some (mg x y) := by
  cases l with
  | nil => cases hl
  | cons a r =>
    cases m with
    | nil => cases hm
    | cons b s =>
      simp only [lateG, Option.some.injEq] at hl hm
      show some ((r ++ b :: s).foldl mg a) = _
      rw [List.foldl_append, hl, List.foldl_cons, foldl_mg ha, hm]
theorem fold_some (k : β) : ∀ (es : List α) (a : α), foldG key mg k (some a) es = some ((grpG key es k).foldl mg a)
  | [], _ => rfl
  | e :: es, a => by
    show foldG key mg k (if key e = k then some (mg a e) else some a) es = _
    by_cases h : key e = k
    · rw [if_pos h, fold_some k es, show grpG key (e :: es) k = e :: grpG key es k from List.filter_cons_of_pos (by simpa using h)]; rfl
    · rw [if_neg h, fold_some k es, show grpG key (e :: es) k = grpG key es k from List.filter_cons_of_neg (by simpa using h)]
theorem fold_late (k : β) : ∀ es : List α, foldG key mg k none es = lateG mg (grpG key es k)
  | [] => rfl
  | e :: es => by
    show foldG key mg k (if key e = k then some e else none) es = _
    by_cases h : key e = k
    · rw [if_pos h, fold_some k es, show grpG key (e :: es) k = e :: grpG key es k from List.filter_cons_of_pos (by simpa using h)]; rfl
    · rw [if_neg h, fold_late k es, show grpG key (e :: es) k = grpG key es k from List.filter_cons_of_neg (by simpa using h)]
omit [DecidableEq β] in
theorem foldl_key (hM : MgOk key c mg) (k : β) : ∀ (r : List α) (x : α), key x = k → (∀ y ∈ r, key y = k) → key (r.foldl mg x) = k
  | [], _, h, _ => h
  | y :: r, x, h, hr => foldl_key hM k r (mg x y) ((hM.keep x y (h.trans (hr y List.mem_cons_self).symm)).trans (hr y List.mem_cons_self)) fun z hz => hr z (List.mem_cons_of_mem _ hz)
theorem late_key (hM : MgOk key c mg) {k : β} {l : List α} {x : α} (h : lateG mg (grpG key l k) = some x) : key x = k := by
  cases hg : grpG key l k with
  | nil => rw [hg] at h; cases h
  | cons a r =>
    have hk : ∀ y ∈ a :: r, key y = k := fun y hy => ((mem_grpG l k y).1 (hg ▸ hy)).2
    rw [hg, lateG, Option.some.injEq] at h
    rw [← h]
    exact foldl_key hM k r a (hk a List.mem_cons_self) fun y hy => hk y (List.mem_cons_of_mem _ hy)
theorem grp_ok (hM : MgOk key c mg) (l : List α) (ds : List β) (J : β → α) (hd : ds.Nodup) (hc : ∀ k, k ∈ ds ↔ ∃ x ∈ l, key x = k) (hJ : ∀ k ∈ ds, lateG mg (grpG key l k) = some (J k))
    (out : List α) (hp : out.Perm (ds.map J)) (hs : out.Pairwise fun a b => ¬ c b a < 0) : out = addsG key c mg [] l := by
  have hk : ∀ k ∈ ds, key (J k) = k := fun k h => late_key hM (hJ k h)
  have hone : out.Pairwise fun a b => key a ≠ key b := by
    refine (List.Perm.pairwise_iff (fun h e => h e.symm) hp).2 ?_
    rw [List.pairwise_map]
    exact hd.imp_of_mem fun {a b} ha hb h e => h (by rw [← hk a ha, ← hk b hb]; exact e)
  have hN : NormG key c out := by
    refine ⟨?_, hone⟩
    refine (List.pairwise_and_iff.2 ⟨hs, hone⟩).imp fun {a b} h => ?_
    have h1 := hM.cmp.anti a b
    have h2 : c a b ≠ 0 := fun e => h.2 (hM.zero a b e)
    have h3 := h.1
    omega
  refine hN.ext hM.cmp (adds_norm hM l [] NormG.nil) fun k => ?_
  rw [adds_get hM k l [] NormG.nil, show getG key ([] : List α) k = none from rfl, fold_late]
  by_cases hm : k ∈ ds
  · rw [hJ k hm]
    exact (getG_some hone k _).2 ⟨hp.mem_iff.2 (List.mem_map.2 ⟨k, hm, rfl⟩), hk k hm⟩
  · have h1 : lateG mg (grpG key l k) = none := (lateG_none _).2 (by
      rw [List.eq_nil_iff_forall_not_mem]
      intro x hx
      have := (mem_grpG l k x).1 hx
      exact hm ((hc k).2 ⟨x, this.1, this.2⟩))
    rw [h1]
    refine (getG_none k).2 fun x hx e => ?_
    obtain ⟨j, hj, rfl⟩ := List.mem_map.1 (hp.mem_iff.1 hx)
    rw [hk j hj] at e
    exact hm (e ▸ hj)
end
theorem grp_all {α β : Type} [DecidableEq β] {key : α → β} (k : β) : ∀ l : List α, (∀ x ∈ l, key x = k) → grpG key l k = l := fun l h => List.filter_eq_self.2 fun x hx => by simpa using h x hx
theorem late_map {α γ : Type} {mg : α → α → α} {ng : γ → γ → γ} (f : α → γ) (h : ∀ a b, f (mg a b) = ng (f a) (f b)) : ∀ l : List α, (lateG mg l).map f = lateG ng (l.map f) := by
  have hf : ∀ (r : List α) (x : α), f (r.foldl mg x) = (r.map f).foldl ng (f x) := by
    intro r
    induction r with
    | nil => intro x; rfl
    | cons y r ih => intro x; show f (r.foldl mg (mg x y)) = (r.map f).foldl ng (ng (f x) (f y)); rw [ih, h]
  intro l
  cases l with
  | nil => rfl
  | cons x r => show some (f (r.foldl mg x)) = some _; rw [hf]
end Go.Proofs.YtbfalppeifkjdaaGreatDoor
end
section
namespace Go.Proofs.YtbfalppeifkjdaaGreatDoor
open Go.RowKit Go.Maps
theorem nrow_same {w w' : World} {B : Nat} {e : TypeId} {k n : Nat} {v : Value} {xs : List Value} (h : w.ownsRow B e k v n xs) (hs : ∀ g, v.ownBlock = some g → w'.heap[g]? = w.heap[g]?) : w'.ownsRow B e k v n xs := by
  refine ⟨h.1, ?_⟩
  rcases h.2 with hn | ⟨g, cap, cur, rfl, hb, hg, r⟩
  · exact .inl hn
  · exact .inr ⟨g, cap, cur, rfl, hb, (hs g rfl).trans hg, r⟩
theorem nrow_more {w w' : World} {B : Nat} {e : TypeId} {k n : Nat} {v : Value} {xs : List Value} (h : w.ownsRow B e k v n xs) (hb : Below w.heap.size w w') : w'.ownsRow B e k v n xs :=
  nrow_same h fun g hg => hb.block g (h.lt g hg).2
def slElem (v : Value) : Option (DataW Value × List MemPlace) := some (.held v, [])
def gpD : List (ByteArray × Value) → DataW Value
  | [] => .map []
  | x :: r => (gpD r).put (.string x.1.data.toList) (.held x.2)
def gpF : List (ByteArray × Value) → ByteArray → Option Value
  | [], _ => none
  | x :: r, q => if x.1 = q then some x.2 else gpF r q
theorem gp_key (t : List UInt8) : WideAt.IsKeyLit (.string t) := trivial
theorem gstr_ext {a b : ByteArray} (h : a.data.toList = b.data.toList) : a = b := ByteArray.ext (Array.ext' h)
theorem gp_ne {a b : ByteArray} (h : ¬ a = b) : Lit.string b.data.toList ≠ Lit.string a.data.toList := fun e => h (gstr_ext (Lit.string.inj e).symm)
theorem gpD_map : ∀ f, IsMap (gpD f)
  | [] => isMap_empty
  | _ :: r => (gpD_map r).put _ _
theorem gpD_has (q : ByteArray) : ∀ f, Maps.has (gpD f) (.string q.data.toList) = (gpF f q).isSome
  | [] => rfl
  | b :: r => by
    rw [gpD, gpF]
    by_cases h : b.1 = q
    · rw [if_pos h, h, has_put_same (gpD_map r) (gp_key _)]; rfl
    · rw [if_neg h, has_put_other (gp_ne h), gpD_has q r]
theorem gpD_at (q : ByteArray) (z : DataW Value) : ∀ f, (gpD f).atKey (.string q.data.toList) z = match gpF f q with
    | some v => .held v
    | none => z
  | [] => rfl
  | b :: r => by
    rw [gpD, gpF]
    by_cases h : b.1 = q
    · rw [if_pos h, h, atKey_put_same (gpD_map r) (gp_key _)]
    · rw [if_neg h, atKey_put_other (gp_ne h), gpD_at q z r]
theorem gp_law : Keyed Tryz.prog 9 := string_keyed Tryz.underlying9
def GpMap (w : World) (b : Nat) (f : List (ByteArray × Value)) : Prop := w.ownsMap Tryz.prog 9 slElem b f.length (gpD f)
theorem GpMap.same {w w' : World} {b : Nat} {f : List (ByteArray × Value)} (h : GpMap w b f) (hb : w'.heap[b]? = w.heap[b]?) : GpMap w' b f := by
  obtain ⟨es, clock, h1, h2⟩ := h
  exact ⟨es, clock, hb.trans h1, h2⟩
theorem GpMap.lt {w : World} {b : Nat} {f : List (ByteArray × Value)} (h : GpMap w b f) : b < w.heap.size := World.ownsMap.lt h
theorem GpMap.look {w : World} {b : Nat} {f : List (ByteArray × Value)} (h : GpMap w b f) {t e : TypeId} (ht : Tryz.prog.underlying t = some (.map 9 e)) (hz : (zeroValue e).run Tryz.prog w = .ok (.slice none 0 0) w) (q : ByteArray) (hq : q.size ≤ maxLen) :
    (Instr.lookup t (.map (some b)) (.string q) false).run Tryz.prog w = .ok ((gpF f q).getD (.slice none 0 0)) w := by
  obtain ⟨v, ps, hrun, hv⟩ := World.ownsMap.lookup h gp_law ht hz (zd := .held (.slice none 0 0)) (zp := []) rfl (Go.WideMaps.keyOf_string_mk Tryz.underlying9 hq)
  rw [gpD_at] at hv
  rw [hrun]
  simp only [slElem, Option.some.injEq, Prod.mk.injEq] at hv
  cases hf : gpF f q with
  | none =>
    rw [hf] at hv
    rw [DataW.held.inj hv.1]
    rfl
  | some x =>
    rw [hf] at hv
    rw [DataW.held.inj hv.1]
    rfl
section
variable {α : Type} (T : TypeId) (k : Nat) (enc : α → List Value) (key : α → ByteArray)
def rowC (l : List α) : List Value := l.flatMap enc
theorem rowC_app (l m : List α) : rowC enc (l ++ m) = rowC enc l ++ rowC enc m := List.flatMap_append
theorem rowC_one (x : α) : rowC enc [x] = enc x := by simp [rowC]
variable {enc} in
theorem rowC_len (hk : ∀ x, (enc x).length = k) : ∀ l : List α, (rowC enc l).length = l.length * k
  | [] => by simp [rowC]
  | x :: r => by
    show (enc x ++ rowC enc r).length = _
    rw [List.length_append, rowC_len hk r, hk, List.length_cons, Nat.add_mul, Nat.one_mul, Nat.add_comm]
variable {enc k} in
theorem rowC_at (hk : ∀ x, (enc x).length = k) : ∀ (l : List α) (i : Nat) (h : i < l.length) (c : Nat), c < k → (rowC enc l)[i * k + c]? = (enc l[i])[c]?
  | x :: r, 0, _, c, hc => by
    show (enc x ++ rowC enc r)[0 * k + c]? = _
    rw [List.getElem?_append_left (by rw [hk]; omega), Nat.zero_mul, Nat.zero_add]
    rfl
  | x :: r, i + 1, h, c, hc => by
    have hi : i < r.length := by rw [List.length_cons] at h; omega
    show (enc x ++ rowC enc r)[(i + 1) * k + c]? = _
    have e : (i + 1) * k + c = k + (i * k + c) := by rw [Nat.add_mul, Nat.one_mul]; omega
    rw [e, List.getElem?_append_right (by rw [hk]; omega), hk, Nat.add_sub_cancel_left, rowC_at hk r i hi c hc]
    rfl
variable {enc} in
theorem rowC_cell (h1 : ∀ x, ∀ u ∈ enc x, u.oneCell' = true) (l : List α) : ∀ u ∈ rowC enc l, u.oneCell' = true := fun u hu => by
  unfold rowC at hu
  obtain ⟨x, -, hx⟩ := List.mem_flatMap.1 hu
  exact h1 x u hx
structure GpsAt (B b : Nat) (f : List (ByteArray × Value)) (l : List α) (w : World) : Prop where
  map : GpMap w b f
  lt : b < B
  size : B ≤ w.heap.size
  row : ∀ q v, gpF f q = some v → w.ownsRow B T k v (grpG key l q).length (rowC enc (grpG key l q))
  void : ∀ q, gpF f q = none ↔ grpG key l q = []
  apart : ∀ q q' v v', gpF f q = some v → gpF f q' = some v' → q ≠ q' → ∀ g, v.ownBlock = some g → v'.ownBlock ≠ some g
variable {T k enc key}
theorem GpsAt.made (w : World) : GpsAt T k enc key (w.heap.size + 1) w.heap.size [] ([] : List α) (w.alloc (.map #[] 0)) :=
  ⟨World.ownsMap_made w _ _ _, Nat.lt_succ_self _, by simp, fun q v h => (by cases h), fun q => by simp [gpF, grpG], fun q q' v v' h => (by cases h)⟩
theorem GpsAt.more {B b : Nat} {f : List (ByteArray × Value)} {l : List α} {w w' : World} (h : GpsAt T k enc key B b f l w) (hb : Below w.heap.size w w') : GpsAt T k enc key B b f l w' :=
  ⟨h.map.same (hb.block b h.map.lt), h.lt, Nat.le_trans h.size hb.size, fun q v hq => nrow_more (h.row q v hq) hb, h.void, h.apart⟩
theorem GpsAt.at {B b : Nat} {f : List (ByteArray × Value)} {l : List α} {w : World} (h : GpsAt T k enc key B b f l w) (q : ByteArray) : w.ownsRow B T k ((gpF f q).getD (.slice none 0 0)) (grpG key l q).length (rowC enc (grpG key l q)) := by
  cases hq : gpF f q with
  | none =>
    rw [(h.void q).1 hq]
    exact World.ownsRow_nil _ _ _ _
  | some v => exact h.row q v hq
theorem gpF_put (f : List (ByteArray × Value)) (q p : ByteArray) (v : Value) : gpF ((q, v) :: f) p = if q = p then some v else gpF f p := rfl
theorem GpsAt.put {B b : Nat} {f : List (ByteArray × Value)} {l : List α} {w w6 w7 : World} (h : GpsAt T k enc key B b f l w) {x : α} {q : ByteArray} (hx : key x = q) {g cap n : Nat} (hn : n = (grpG key l q).length + 1)
    (hg : w.grownBy w6 ((gpF f q).getD (.slice none 0 0)).ownBlock) (ho : w6.ownsRow B T k (.slice (some ⟨g, 0, none⟩) n cap) n (rowC enc (grpG key l q) ++ enc x)) (hat : ((gpF f q).getD (.slice none 0 0)).ownBlock = some g ∨ g = w.heap.size)
    (hm : w7.ownsMap Tryz.prog 9 slElem b (f.length + 1) ((gpD f).put (.string q.data.toList) (.held (.slice (some ⟨g, 0, none⟩) n cap)))) (h7 : w6.grownBy w7 (some b)) : GpsAt T k enc key B b ((q, .slice (some ⟨g, 0, none⟩) n cap) :: f) (l ++ [x]) w7 := by
  have hgr : ∀ p, grpG key (l ++ [x]) p = if q = p then grpG key l q ++ [x] else grpG key l p := fun p => by
    rw [grpG_app, grpG_one, hx]
    by_cases e : q = p
    · subst e; rw [if_pos rfl, if_pos rfl]
    · rw [if_neg e, if_neg e, List.append_nil]
  have hfar : ∀ p v, gpF f p = some v → q ≠ p → ∀ j, v.ownBlock = some j → some j ≠ ((gpF f q).getD (.slice none 0 0)).ownBlock ∧ j ≠ g := fun p v hv hne j hj => by
    have hlt := (h.row p v hv).lt j hj
    have h1 : some j ≠ ((gpF f q).getD (.slice none 0 0)).ownBlock := by
      cases hq : gpF f q with
      | none => exact fun e => by cases e
      | some u => exact fun e => h.apart q p u v hq hv hne j e.symm hj
    refine ⟨h1, fun e => ?_⟩
    rcases hat with e2 | e2
    · exact h1 (by rw [e2, e])
    · omega
  refine ⟨hm, h.lt, Nat.le_trans h.size (Nat.le_trans hg.size h7.size), fun p v hp => ?_, fun p => ?_, ?_⟩
  · rw [gpF_put] at hp
    by_cases e : q = p
    · subst e
      rw [if_pos rfl, Option.some.injEq] at hp
      subst hp
      rw [hgr, if_pos rfl, List.length_append, List.length_singleton, ← hn, rowC_app, rowC_one]
      refine nrow_same ho fun j hj => h7.block j (ho.lt j hj).2 fun e => ?_
      have := (ho.lt j hj).1
      have := h.lt
      cases e
      omega
    · rw [if_neg e] at hp
      rw [hgr, if_neg e]
      refine nrow_same (h.row p v hp) fun j hj => ?_
      have hlt := (h.row p v hp).lt j hj
      have hf := hfar p v hp e j hj
      refine (h7.block j (Nat.lt_of_lt_of_le hlt.2 hg.size) fun e => ?_).trans (hg.block j hlt.2 hf.1)
      have := h.lt
      cases e
      omega
  · rw [gpF_put, hgr]
    by_cases e : q = p
    · rw [if_pos e, if_pos e]; simp
    · rw [if_neg e, if_neg e]; exact h.void p
  · intro p p' v v' hp hp' hne j hj hj'
    rw [gpF_put] at hp hp'
    by_cases e : q = p
    · rw [if_pos e, Option.some.injEq] at hp
      rw [if_neg (fun e' => hne (e.symm.trans e'))] at hp'
      subst hp
      cases hj
      exact (hfar p' v' hp' (fun e' => hne (e.symm.trans e')) g hj').2 rfl
    · rw [if_neg e] at hp
      by_cases e' : q = p'
      · rw [if_pos e', Option.some.injEq] at hp'
        subst hp'
        cases hj'
        exact (hfar p v hp e g hj).2 rfl
      · rw [if_neg e'] at hp'
        exact h.apart p p' v v' hp hp' hne j hj hj'
theorem GpsAt.below {B b B0 : Nat} {f : List (ByteArray × Value)} {l : List α} {w0 w w6 w7 : World} (h : GpsAt T k enc key B b f l w) (q : ByteArray) (h0 : Below B0 w0 w) (hb : B0 ≤ b) (hz : B0 ≤ w.heap.size)
    (hg : w.grownBy w6 ((gpF f q).getD (.slice none 0 0)).ownBlock) (h7 : w6.grownBy w7 (some b)) : Below B0 w0 w7 :=
  (h0.grown hg hz fun j hj => by have := ((h.at q).lt j hj).1; have := h.lt; omega).grown h7 (Nat.le_trans hz hg.size) fun j hj => by cases hj; exact hb
end
structure RgAt (f : List (ByteArray × Value)) (done : List ByteArray) (left : Lit → Bool) : Prop where
  nodup : done.Nodup
  mem : ∀ q ∈ done, gpF f q ≠ none
  left : ∀ q : ByteArray, left (.string q.data.toList) = ((gpF f q).isSome && !(done.any fun x => decide (x = q)))
theorem RgAt.start (f : List (ByteArray × Value)) : RgAt f [] (Maps.has (gpD f)) := ⟨List.nodup_nil, fun q h => (by cases h), fun q => by rw [gpD_has]; simp⟩
theorem RgAt.all {f : List (ByteArray × Value)} {done : List ByteArray} {left : Lit → Bool} (h : RgAt f done left) (hl : ∀ kl, left kl = false) (q : ByteArray) : q ∈ done ↔ gpF f q ≠ none := by
  refine ⟨h.mem q, fun hq => ?_⟩
  have := h.left q
  rw [hl, Option.isSome_iff_ne_none.2 hq, Bool.true_and] at this
  have h2 : (done.any fun x => decide (x = q)) = true := by simpa using this.symm
  obtain ⟨x, hx, he⟩ := List.any_eq_true.1 h2
  exact of_decide_eq_true he ▸ hx
theorem RgAt.step {f : List (ByteArray × Value)} {done : List ByteArray} {left : Lit → Bool} (h : RgAt f done left) {q : ByteArray} (hl : left (.string q.data.toList) = true) : q ∉ done ∧ (gpF f q).isSome = true ∧ RgAt f (done ++ [q]) (fun z => left z && !z.sameKey (.string q.data.toList)) := by
  rw [h.left, Bool.and_eq_true] at hl
  have hn : q ∉ done := fun hq => by
    have h2 := hl.2
    rw [List.any_eq_true.2 ⟨q, hq, by simp⟩] at h2
    cases h2
  refine ⟨hn, hl.1, ?_, fun p hp => ?_, fun p => ?_⟩
  · exact List.nodup_append.2 ⟨h.nodup, by simp, fun a ha b hb => by simp at hb; subst hb; exact fun e => hn (e ▸ ha)⟩
  · rcases List.mem_append.1 hp with hp | hp
    · exact h.mem p hp
    · simp at hp; subst hp; exact Option.isSome_iff_ne_none.1 hl.1
  · rw [h.left]
    by_cases e : p = q
    · subst e
      rw [WideAt.sameKey_self (gp_key _), List.any_append]
      simp
    · have hs : (Lit.string p.data.toList).sameKey (.string q.data.toList) = false := by
        rcases hb : (Lit.string p.data.toList).sameKey (.string q.data.toList) with _ | _
        · rfl
        · exact absurd (gstr_ext (Lit.string.inj (WideAt.sameKey_eq hb))) e
      rw [hs, List.any_append, show ([q].any fun x => decide (x = p)) = false by rw [List.any_cons, List.any_nil, Bool.or_false]; exact decide_eq_false (fun e' : q = p => e e'.symm)]
      simp
theorem gp_inv {key : Value} {kl : Lit} (h : keyOf Tryz.prog 9 key = some kl) : ∃ q : ByteArray, key = .string q ∧ kl = .string q.data.toList := by
  cases key <;> simp [keyOf, Tryz.underlying9, mapKey] at h
  exact ⟨_, rfl, h.2.symm⟩
theorem Goes.both {w w' : World} {L L' : List Nat} (h : Goes w L w' L') (a : Addr) (v : Value) (hc : (holes w L).cell? a = some v) : (holes w' L').cell? a = some v ∧ (holes w' L').frozen? a = (holes w L).frozen? a := by
  refine ⟨h.cell a v hc, ?_⟩
  obtain ⟨h1, h2, h3⟩ := holes_cell hc
  obtain ⟨h4, h5⟩ := h _ h3 h2
  refine (World.frozen?_of_block ?_).trans (World.frozen?_of_block (holes_ne w L a.block h2)).symm
  rw [holes_ne w' L' a.block h4]
  exact h5
section
variable {α : Type}
def OkMono (Ok : World → α → Prop) : Prop := ∀ w w' x, (∀ a v, w.cell? a = some v → w'.cell? a = some v ∧ w'.frozen? a = w.frozen? a) → Ok w x → Ok w' x
structure OutAt (T : TypeId) (k : Nat) (enc : α → List Value) (Ok : World → α → Prop) (B : Nat) (L : List Nat) (v : Value) (xs : List α) (w : World) : Prop where
  row : w.ownsRow B T k v xs.length (rowC enc xs)
  ok : ∀ x ∈ xs, Ok (holes w (v.ownBlock.toList ++ L)) x
  size : B ≤ w.heap.size
variable {T : TypeId} {k : Nat} {enc : α → List Value} {Ok : World → α → Prop} {B : Nat} {L : List Nat}
theorem OutAt.nil (w : World) (hB : B ≤ w.heap.size) : OutAt T k enc Ok B L (.slice none 0 0) [] w := ⟨World.ownsRow_nil _ _ _ _, fun x h => (by cases h), hB⟩
theorem OutAt.more {v : Value} {xs : List α} {w w' : World} (hM : OkMono Ok) (h : OutAt T k enc Ok B L v xs w) (hb : Below w.heap.size w w') : OutAt T k enc Ok B L v xs w' :=
  ⟨nrow_more h.row hb, fun x hx => hM _ _ x (Goes.below hb).both (h.ok x hx), Nat.le_trans h.size hb.size⟩
theorem OutAt.kept {v : Value} {xs : List α} {w w' : World} {r : Nat} (hM : OkMono Ok) (h : OutAt T k enc Ok B L v xs w) (hg : w.grownBy w' (some r)) (hr : r ∈ L) (hB : r < B) : OutAt T k enc Ok B L v xs w' :=
  ⟨nrow_same h.row fun j hj => hg.block j (h.row.lt j hj).2 fun e => by have := (h.row.lt j hj).1; cases e; omega,
   fun x hx => hM _ _ x (Goes.grown hg fun j hj => by cases hj; exact List.mem_append_right _ hr).both (h.ok x hx), Nat.le_trans h.size hg.size⟩
theorem OutAt.put {v : Value} {xs : List α} {w w6 : World} (hM : OkMono Ok) (h : OutAt T k enc Ok B L v xs w) {x : α} (hx : Ok (holes w (v.ownBlock.toList ++ L)) x) {g cap n : Nat} (hn : n = xs.length + 1)
    (ho : w6.ownsRow B T k (.slice (some ⟨g, 0, none⟩) n cap) n (rowC enc xs ++ enc x)) (hg : w.grownBy w6 v.ownBlock) (hat : v.ownBlock = some g ∨ g = w.heap.size) : OutAt T k enc Ok B L (.slice (some ⟨g, 0, none⟩) n cap) (xs ++ [x]) w6 := by
  have hGo : Goes w (v.ownBlock.toList ++ L) w6 ([g] ++ L) := fun j hj hn => by
    have hv : v.ownBlock ≠ some j := fun e => hn (by rw [e]; simp)
    refine ⟨fun e => ?_, hg.block j hj fun e => hv e.symm⟩
    rcases List.mem_append.1 e with e | e
    · simp only [List.mem_singleton] at e
      subst e
      rcases hat with e2 | e2
      · exact hv e2
      · omega
    · exact hn (List.mem_append_right _ e)
  refine ⟨?_, fun y hy => ?_, Nat.le_trans h.size hg.size⟩
  · rw [List.length_append, List.length_singleton, ← hn, rowC_app, rowC_one]
    exact ho
  · rcases List.mem_append.1 hy with hy | hy
    · exact hM _ _ y hGo.both (h.ok y hy)
    · simp only [List.mem_singleton] at hy
      subst hy
      exact hM _ _ y hGo.both hx
theorem OutAt.below {v : Value} {xs : List α} {w w6 w0 : World} {B0 : Nat} (h : OutAt T k enc Ok B L v xs w) (h0 : Below B0 w0 w) (hb : B0 ≤ B) (hg : w.grownBy w6 v.ownBlock) : Below B0 w0 w6 :=
  h0.grown hg (Nat.le_trans hb h.size) fun j hj => Nat.le_trans hb (h.row.lt j hj).1
end
inductive PairL {α β : Type} (R : α → β → Prop) : List α → List β → Prop
  | nil : PairL R [] []
  | snoc {l : List α} {m : List β} {x : α} {y : β} : PairL R l m → R x y → PairL R (l ++ [x]) (m ++ [y])
theorem PairL.len {α β : Type} {R : α → β → Prop} {l : List α} {m : List β} (h : PairL R l m) : m.length = l.length := by
  induction h with
  | nil => rfl
  | snoc _ _ ih => rw [List.length_append, List.length_append, ih]; rfl
theorem PairL.map {α β γ : Type} {R : α → β → Prop} {l : List α} {m : List β} (h : PairL R l m) (f : α → γ) (g : β → γ) (hR : ∀ x y, R x y → g y = f x) : m.map g = l.map f := by
  induction h with
  | nil => rfl
  | snoc _ hxy ih => rw [List.map_append, List.map_append, ih, List.map_singleton, List.map_singleton, hR _ _ hxy]
section
variable {α : Type} {k : Nat} {enc : α → List Value}
def RwAt (k : Nat) (enc : α → List Value) (w : World) (p : Option Addr) (l : List α) : Prop := ∀ i (h : i < l.length), ∃ a, p = some a ∧ ∀ c u, (enc l[i])[c]? = some u → w.cell? ((a.add (i * k)).add c) = some u
theorem RwAt.mono {w w' : World} {p : Option Addr} {l : List α} (h : RwAt k enc w p l) (hm : ∀ a v, w.cell? a = some v → w'.cell? a = some v) : RwAt k enc w' p l := fun i hi => by
  obtain ⟨a, ha, hc⟩ := h i hi
  exact ⟨a, ha, fun c u hu => hm _ _ (hc c u hu)⟩
theorem RwAt.below {w w' : World} {p : Option Addr} {l : List α} (h : RwAt k enc w p l) (hb : Below w.heap.size w w') : RwAt k enc w' p l := h.mono fun _ _ hc => (hb.cell (kblock_lt hc)).trans hc
theorem add_zero3 (g j : Nat) : (⟨g, 0, none⟩ : Addr).add j = ⟨g, j, none⟩ := by unfold Addr.add; split <;> simp_all
theorem add_two3 (g i c : Nat) : ((⟨g, 0, none⟩ : Addr).add i).add c = ⟨g, i + c, none⟩ := by
  rw [add_zero3]
  unfold Addr.add
  split <;> simp_all
theorem RwAt.of_owns {w : World} {B : Nat} {T : TypeId} {p : Option Addr} {n c : Nat} {l : List α} (hk : ∀ x, (enc x).length = k) (h : w.ownsRow B T k (.slice p n c) n (rowC enc l)) (hn : n = l.length) : RwAt k enc w p l := fun i hi => by
  obtain ⟨g, cap, he, hb, hlt⟩ := h.form (by omega)
  cases he
  refine ⟨_, rfl, fun c u hu => ?_⟩
  have hc : c < k := by rw [← hk l[i]]; exact (List.getElem?_eq_some_iff.1 hu).1
  rw [add_two3, ← add_zero3]
  exact h.cells rfl (i * k + c) u (by rw [rowC_at hk l i hi c hc]; exact hu)
end
end Go.Proofs.YtbfalppeifkjdaaGreatDoor
end
section
namespace Go.Proofs.YtbfalppeifkjdaaGreatDoor
open Go.RowKit
def Lays (w w' : World) : Prop := ∃ q os, w' = Go.Sort.grow (w.drewN q) os
theorem lays_two (w : World) (o o' : Obj) : Lays w ((w.alloc o).alloc o') := ⟨0, _, by rw [Go.Sort.alloc_eq_grow, Go.Sort.alloc_eq_grow, Go.Sort.grow_grow]; rfl⟩
set_option maxRecDepth 100000 in
set_option maxHeartbeats 4000000 in
theorem nz_slices (l m : List ByteArray) (p : Option Addr) (c : Nat) (q : Option Addr) (d : Nat) (w : World) (hl : NamAt w p l) (hm : NamAt w q m) (h1 : l.length ≤ 100000000) (h2 : m.length ≤ 100000000) :
    Calls Tryz.prog 99 #[.slice p l.length c, .slice q m.length d] w fun e w' => e = .returned (.int .i64 (cmpP l m)) ∧ w = w' := by
  obtain ⟨R, hR⟩ : ∃ R, cmpP l m = R := ⟨_, rfl⟩
  rw [hR]
  have HR := Lib.hid hR.symm
  have HL := Lib.hid hl
  have HM := Lib.hid hm
  have h1z : (l.length : Int) ≤ 100000000 := by omega
  have h2z : (m.length : Int) ≤ 100000000 := by omega
  clear hl hm hR
  go_enter Tryz.func99, Tryz.ntmps99
  go_wp2
  go_loopw [11] (fun v wr => ∃ i : Nat, i ≤ l.length ∧ i ≤ m.length ∧ v = .int .i64 (i : Int) ∧ R = cmpP (l.drop i) (m.drop i) ∧ w = wr) (fun v _ => l.length - (RowKit.intOf v).toNat)
  case atStart => exact ⟨0, Nat.zero_le _, Nat.zero_le _, rfl, HR.out, rfl⟩
  case round =>
    clear HR
    obtain ⟨i, hi, hj, rfl, hR, rfl⟩ := hrel
    have hb := Below.refl w.heap.size w
    have hz := hb.size
    by_cases hli : i < l.length
    · have hiz : (i : Int) < (l.length : Int) := by omega
      obtain ⟨a, rfl, ca⟩ := HL.out.below hb i hli
      obtain ⟨aa, haa⟩ : ∃ aa, a.add i = aa := ⟨_, rfl⟩
      rw [haa] at ca
      by_cases hmi : i < m.length
      · have hjz : (i : Int) < (m.length : Int) := by omega
        have hjz2 : ¬ (m.length : Int) ≤ (i : Int) := by omega
        obtain ⟨b, rfl, cb⟩ := HM.out.below hb i hmi
        rw [List.drop_eq_getElem_cons hli, List.drop_eq_getElem_cons hmi, cmpP] at hR
        obtain ⟨x, hx⟩ : ∃ x, l[i] = x := ⟨_, rfl⟩
        obtain ⟨y, hy⟩ : ∃ y, m[i] = y := ⟨_, rfl⟩
        rw [hx] at ca hR
        rw [hy] at cb hR
        clear hx hy
        obtain ⟨bb, hbb⟩ : ∃ bb, b.add i = bb := ⟨_, rfl⟩
        rw [hbb] at cb
        have cC := fun wx => mc_string x y wx
        have HB := Lib.hid hb
        generalize cmpS x y = C at *
        by_cases hC : C = 0
        · subst hC
          rw [show lexI 0 (cmpP (l.drop (i + 1)) (m.drop (i + 1))) = cmpP (l.drop (i + 1)) (m.drop (i + 1)) from rfl] at hR
          have HRR := Lib.hid hR
          clear hR hb
          go_wp2_with (first | (go_at_call 76; refine (cC _).mono ?_; rintro e w1 ⟨rfl, rfl⟩))
          go_roundw
          case rel => exact ⟨i + 1, by omega, by omega, by go_num, HRR.out, trivial⟩
          case measure => simp [RowKit.intOf]; omega
        · have hlex : R = C := by
            rw [hR]
            unfold lexI
            rw [if_neg hC]
          have HX := Lib.hid hlex
          clear hR hb hlex
          go_wp2_with (first | (go_at_call 76; refine (cC _).mono ?_; rintro e w1 ⟨rfl, rfl⟩))
          go_ret
          exact ⟨mretI HX.out.symm, rfl⟩
      · obtain rfl : i = m.length := by omega
        have hjz : (m.length : Int) ≤ (m.length : Int) := by omega
        rw [List.drop_length, List.drop_eq_getElem_cons hli, show cmpP (l[m.length] :: l.drop (m.length + 1)) [] = 1 from rfl] at hR
        subst hR
        have HB := Lib.hid hb
        clear hb
        go_wp2
        go_ret
        exact ⟨rfl, rfl⟩
    · obtain rfl : i = l.length := by omega
      have hiz : ¬ (l.length : Int) < (l.length : Int) := by omega
      rw [List.drop_length] at hR
      have HB := Lib.hid hb
      clear hb
      by_cases hmi : l.length < m.length
      · have hmz : (l.length : Int) < (m.length : Int) := by omega
        rw [List.drop_eq_getElem_cons hmi, show cmpP [] (m[l.length] :: m.drop (l.length + 1)) = -1 from rfl] at hR
        subst hR
        go_wp2
        go_ret
        exact ⟨rfl, rfl⟩
      · have hmz : ¬ (l.length : Int) < (m.length : Int) := by omega
        rw [List.drop_eq_nil_of_le (by omega), show cmpP [] [] = 0 from rfl] at hR
        subst hR
        go_wp2
        go_ret
        exact ⟨rfl, rfl⟩
theorem nz_paths (l m : List ByteArray) (p : Option Addr) (c : Nat) (q : Option Addr) (d : Nat) (w : World) (hl : NamAt w p l) (hm : NamAt w q m) (h1 : l.length ≤ 100000000) (h2 : m.length ≤ 100000000) :
    Calls Tryz.prog 81 #[.slice p l.length c, .slice q m.length d] w fun e w' => e = .returned (.int .i64 (cmpP l m)) ∧ w = w' := by
  have cC := nz_slices l m p c q d w hl hm h1 h2
  generalize cmpP l m = R at *
  clear hl hm
  go_enter Tryz.func81, Tryz.ntmps81
  go_wp2_with (first | (go_at_call 99; refine cC.mono ?_; rintro e w1 ⟨rfl, rfl⟩))
  go_ret
  exact ⟨rfl, rfl⟩
set_option maxRecDepth 100000 in
theorem nz_cmpE (a b : EntD) (w : World) : Calls Tryz.prog 58 #[EntV a, EntV b] w fun e w' => e = .returned (.int .i64 (cmpE a b)) ∧ Lays w w' := by
  obtain ⟨i1, t1, l1, c1, u1⟩ := a
  obtain ⟨i2, t2, l2, c2, u2⟩ := b
  unfold EntV cmpE
  dsimp only
  have cC := fun wx => mc_string i1 i2 wx
  have cU := fun wx => mc_int u2 u1 wx
  generalize cmpS i1 i2 = R at *
  generalize cmpU u1 u2 = U at *
  have hb : ∀ o o' : Obj, Lays w ((w.alloc o).alloc o') := fun o o' => lays_two w o o'
  have HB := Lib.hid hb
  clear hb
  by_cases h1 : U = 0
  · subst h1
    go_enter Tryz.func58, Tryz.ntmps58
    go_wp2_with (first | (go_at_call 75; refine (cU _).mono ?_; rintro e w1 ⟨rfl, rfl⟩) | (go_at_call 76; refine (cC _).mono ?_; rintro e w1 ⟨rfl, rfl⟩))
    go_ret
    exact ⟨rfl, HB.out _ _⟩
  · have hl : lexI U R = U := by
      unfold lexI
      rw [if_neg h1]
    rw [hl]
    clear hl
    go_enter Tryz.func58, Tryz.ntmps58
    go_wp2_with (first | (go_at_call 75; refine (cU _).mono ?_; rintro e w1 ⟨rfl, rfl⟩))
    go_ret
    exact ⟨rfl, HB.out _ _⟩
set_option maxRecDepth 100000 in
theorem nz_cmpF (f g : FeedD) (v u : Value) (w : World) (hf : FeedIs w f v) (hg : FeedIs w g u) (h1 : f.path.length ≤ 100000000) (h2 : g.path.length ≤ 100000000) : Calls Tryz.prog 64 #[v, u] w fun e w' => e = .returned (.int .i64 (cmpF f g)) ∧ Lays w w' := by
  obtain ⟨p1, c1, q1, d1, rfl, hp1, -⟩ := hf
  obtain ⟨p2, c2, q2, d2, rfl, hp2, -⟩ := hg
  unfold cmpF
  have cC := fun wx => mc_string f.id g.id wx
  have cP := fun wx a b => nz_paths f.path g.path p1 c1 p2 c2 wx a b h1 h2
  have hz := cmpP_zero f.path g.path
  generalize cmpP f.path g.path = R at *
  generalize cmpS f.id g.id = R2 at *
  obtain ⟨R3, hR3⟩ : ∃ R3, lexI R R2 = R3 := ⟨_, rfl⟩
  rw [hR3]
  have HR3 := Lib.hid hR3
  clear hR3
  obtain ⟨W2, hW2⟩ : ∃ W2, W2 = (w.alloc (.cells #[.slice p1 f.path.length c1, .string f.id, .string f.title, .string f.link, .int .i64 f.upd, .slice q1 f.ents.length d1] 35)).alloc (.cells #[.slice p2 g.path.length c2, .string g.id, .string g.title, .string g.link, .int .i64 g.upd, .slice q2 g.ents.length d2] 35) := ⟨_, rfl⟩
  have b2 : Below w.heap.size w W2 := by rw [hW2]; exact ((Below.refl _ _).alloc (Nat.le_refl _) _).alloc (by simp) _
  have b12 : Below (w.heap.size + 2) W2 W2 := Below.refl _ _
  have e1 : W2.cell? ⟨w.heap.size, 1, none⟩ = some (.string f.id) := by
    rw [hW2]
    exact mcell ((Below.refl _ _).alloc (Nat.le_refl _) _) (cell_of_row _ _ 1 _ _ _ (heap_alloc_new w _))
  have e2 : W2.cell? ⟨w.heap.size + 1, 1, none⟩ = some (.string g.id) := by
    rw [hW2]
    have := heap_alloc_new (w.alloc (.cells #[.slice p1 f.path.length c1, .string f.id, .string f.title, .string f.link, .int .i64 f.upd, .slice q1 f.ents.length d1] 35)) (.cells #[.slice p2 g.path.length c2, .string g.id, .string g.title, .string g.link, .int .i64 g.upd, .slice q2 g.ents.length d2] 35)
    rw [World.size_alloc] at this
    exact cell_of_row _ _ 1 _ _ _ this
  have e3 : W2.cell? ⟨w.heap.size, 0, none⟩ = some (.slice p1 f.path.length c1) := by
    rw [hW2]
    exact mcell ((Below.refl _ _).alloc (Nat.le_refl _) _) (cell_of_row _ _ 0 _ _ _ (heap_alloc_new w _))
  have e4 : W2.cell? ⟨w.heap.size + 1, 0, none⟩ = some (.slice p2 g.path.length c2) := by
    rw [hW2]
    have := heap_alloc_new (w.alloc (.cells #[.slice p1 f.path.length c1, .string f.id, .string f.title, .string f.link, .int .i64 f.upd, .slice q1 f.ents.length d1] 35)) (.cells #[.slice p2 g.path.length c2, .string g.id, .string g.title, .string g.link, .int .i64 g.upd, .slice q2 g.ents.length d2] 35)
    rw [World.size_alloc] at this
    exact cell_of_row _ _ 0 _ _ _ this
  have cP2 := cP W2 (hp1.below b2) (hp2.below b2)
  have HB := Lib.hid (show Lays w W2 by rw [hW2]; exact lays_two w _ _)
  clear hp1 hp2 b2 b12 cP hz
  go_enter Tryz.func64, Tryz.ntmps64
  go_upto_region 1 with fail
  simp only [← hW2]
  clear hW2
  go_wp2_with fail
  refine cP2.mono ?_
  rintro e w3 ⟨rfl, rfl⟩
  have b3 := Below.refl W2.heap.size W2
  have g1 := mcell b3 e1
  have g2 := mcell b3 e2
  have HB3 := HB
  clear e1 e2 e3 e4 cP2 b3
  by_cases h0 : R = 0
  · subst h0
    go_wp2_with fail
    refine (cC _).mono ?_
    rintro e w4 ⟨rfl, rfl⟩
    go_wp2
    go_ret
    exact ⟨mretI HR3.out, HB3.out⟩
  · go_wp2
    go_ret
    exact ⟨mretI (by rw [← HR3.out]; unfold lexI; rw [if_neg h0]), HB3.out⟩
end Go.Proofs.YtbfalppeifkjdaaGreatDoor
end
section
namespace Go.Proofs.YtbfalppeifkjdaaGreatDoor
open Go.RowKit
def NewRow {α : Type} (k : Nat) (enc : α → List Value) (B : Nat) (v : Value) (xs : List α) (w : World) : Prop :=
  ∃ p cap, v = .slice p xs.length cap ∧ xs.length ≤ cap ∧ (xs ≠ [] → ∃ g, p = some ⟨g, 0, none⟩ ∧ B ≤ g ∧ g < w.heap.size ∧ ∀ i (h : i < xs.length) c u, (enc xs[i])[c]? = some u → w.cell? ⟨g, i * k + c, none⟩ = some u ∧ w.frozen? ⟨g, i * k + c, none⟩ = false)
theorem NewRow.row {α : Type} {k : Nat} {enc : α → List Value} {B : Nat} {p : Option Addr} {n cap : Nat} {xs : List α} {w : World} (h : NewRow k enc B (.slice p n cap) xs w) : RwAt k enc w p xs := fun i hi => by
  obtain ⟨p', cap', e, -, hx⟩ := h
  obtain ⟨g, hg, -, -, hc⟩ := hx (fun e => by rw [e] at hi; exact absurd hi (Nat.not_lt_zero _))
  cases e
  refine ⟨_, hg, fun c u hu => ?_⟩
  rw [add_two3]
  exact (hc i hi c u hu).1
theorem NewRow.more {α : Type} {k : Nat} {enc : α → List Value} {B : Nat} {v : Value} {xs : List α} {w w' : World} (h : NewRow k enc B v xs w) (hb : Below w.heap.size w w') : NewRow k enc B v xs w' := by
  obtain ⟨p, cap, e, h0, hx⟩ := h
  refine ⟨p, cap, e, h0, fun hne => ?_⟩
  obtain ⟨g, hg, hB, hlt, hc⟩ := hx hne
  have hs := hb.block g hlt
  exact ⟨g, hg, hB, Nat.lt_of_lt_of_le hlt hb.size, fun i hi c u hu => ⟨(World.cell?_of_block hs).trans (hc i hi c u hu).1, (World.frozen?_of_block hs).trans (hc i hi c u hu).2⟩⟩
theorem NewRow.mono {α : Type} {k : Nat} {enc : α → List Value} {B B' : Nat} {v : Value} {xs : List α} {w : World} (h : NewRow k enc B v xs w) (hB : B' ≤ B) : NewRow k enc B' v xs w := by
  obtain ⟨p, cap, e, h0, hx⟩ := h
  exact ⟨p, cap, e, h0, fun hne => by obtain ⟨g, hg, h1, h2⟩ := hx hne; exact ⟨g, hg, Nat.le_trans hB h1, h2⟩⟩
theorem NewRow.owned {α : Type} {T : TypeId} {k : Nat} {enc : α → List Value} {B : Nat} {v : Value} {xs : List α} {w : World} (hk : ∀ x, (enc x).length = k) (h : w.ownsRow B T k v xs.length (rowC enc xs)) : NewRow k enc B v xs w := by
  rcases h.2 with ⟨rfl, h0⟩ | ⟨g, cap, cur, rfl, hb, hg, hcap, -, hsz, htk⟩
  · refine ⟨none, 0, by rw [h0], by omega, fun hne => absurd (List.eq_nil_of_length_eq_zero h0) hne⟩
  · refine ⟨_, cap, rfl, hcap, fun _ => ⟨g, rfl, hb, (Array.getElem?_eq_some_iff.1 hg).1, fun i hi c u hu => ?_⟩⟩
    have hc : c < k := by rw [← hk xs[i]]; exact (List.getElem?_eq_some_iff.1 hu).1
    refine ⟨?_, frozen_of_row w g _ _ _ hg⟩
    have := h.cells rfl (i * k + c) u (by rw [rowC_at hk xs i hi c hc]; exact hu)
    rw [add_zero3] at this
    exact this
section
variable {α : Type} [Inhabited α] {k : Nat} {enc : α → List Value}
theorem flat_cell (hk : ∀ x, (enc x).length = k) (xs : List α) (j : Nat) (hj : j < xs.toArray.size * k) : (rowC enc xs)[j]? = some ((Go.Sort.flatK enc k xs.toArray)[j]!) := by
  rw [Go.Sort.get_flatK _ _ _ _ hj]
  have hk0 : 0 < k := by
    rcases Nat.eq_zero_or_pos k with h | h
    · subst h; simp at hj
    · exact h
  have hi : j / k < xs.length := by
    rw [Nat.div_lt_iff_lt_mul hk0]
    simpa using hj
  have hc : j % k < k := Nat.mod_lt _ hk0
  have e : j = j / k * k + j % k := by rw [Nat.mul_comm]; exact (Nat.div_add_mod j k).symm
  have h1 : (rowC enc xs)[j / k * k + j % k]? = (enc xs[j / k])[j % k]? := rowC_at hk xs (j / k) hi (j % k) hc
  rw [← e] at h1
  rw [h1]
  have h2 : xs.toArray[j / k]! = xs[j / k] := by
    rw [getElem!_pos xs.toArray (j / k) (by simpa using hi)]
    simp
  rw [h2]
  have hl : j % k < (enc xs[j / k]).length := by rw [hk]; exact hc
  rw [List.getElem?_eq_getElem hl, getElem!_pos (enc xs[j / k]) (j % k) hl]
theorem holds_owns (hk : ∀ x, (enc x).length = k) {w : World} {B : Nat} {T : TypeId} {g cap : Nat} {xs : List α} (h : w.ownsRow B T k (.slice (some ⟨g, 0, none⟩) xs.length cap) xs.length (rowC enc xs)) : Go.Sort.HoldsK enc k w g 0 xs.toArray := by
  rcases h.2 with ⟨e, -⟩ | ⟨g', cap', cur, e, hb, hg, hcap, -, hsz, htk⟩
  · cases e
  · cases e
    intro j hj
    rw [Go.Sort.size_flatK] at hj
    have hc := h.cells rfl j _ (flat_cell hk xs j hj)
    rw [add_zero3] at hc
    rw [Nat.zero_add]
    exact ⟨hc, frozen_of_row w g _ _ _ hg⟩
theorem sort_perm {d d' : Array α} (h : Go.Sort.PermIn 0 d.size d d') : d'.toList.Perm d.toList := by
  obtain ⟨h1, -, h2⟩ := h
  have e1 : d'.extract 0 d.size = d' := by rw [← h1]; simp
  have e2 : d.extract 0 d.size = d := by simp
  rwa [e1, e2] at h2
theorem sort_sorted {c : α → α → Int} {n : Nat} {d : Array α} (hn : d.size = n) (h : Go.Sort.SortedIn (Go.Proofs.ltOf c) 0 n d) : d.toList.Pairwise fun a b => ¬ c b a < 0 := by
  rw [List.pairwise_iff_getElem]
  intro i j hi hj hij
  have hi' : i < d.size := by simpa using hi
  have hj' : j < d.size := by simpa using hj
  have := h i j (Nat.zero_le _) hij (by omega)
  rw [getElem!_pos d j hj', getElem!_pos d i hi'] at this
  unfold Go.Proofs.ltOf at this
  simpa using this
omit [Inhabited α] in
theorem cmp3_swo {c : α → α → Int} (hc : Cmp3 c) : Go.Sort.SWO (Go.Proofs.ltOf c) where
  irrefl x := by
    unfold Go.Proofs.ltOf
    have := hc.anti x x
    exact decide_eq_false (by omega)
  trans x y z h1 h2 := by
    unfold Go.Proofs.ltOf at *
    exact decide_eq_true (Cmp3.lt_trans hc (of_decide_eq_true h1) (of_decide_eq_true h2))
  ntrans x y z h1 h2 := by
    unfold Go.Proofs.ltOf at *
    have a1 := of_decide_eq_false h1
    have a2 := of_decide_eq_false h2
    refine decide_eq_false fun h3 => ?_
    have b1 := hc.anti x y
    have b2 := hc.anti y z
    have b3 := hc.anti x z
    have := hc.min z y x (by omega) (by omega)
    omega
theorem sorted_new {w : World} {g n : Nat} {os : Array Obj} {d d' : Array α} (hk : ∀ x, (enc x).length = k) (hH : Go.Sort.HoldsK enc k w g 0 d) (hs : d'.size = d.size) (hg : g < w.heap.size) {B : Nat} (hB : B ≤ g) {cap : Nat} (hcap : d.size ≤ cap) :
    NewRow k enc B (.slice (some ⟨g, 0, none⟩) d'.toList.length cap) d'.toList (Go.Proofs.sortWorldK enc k w g 0 n d' os) := by
  have hh : Go.Sort.HoldsK enc k (Go.Proofs.sortWorldK enc k w g 0 n d' os) g 0 d' := Go.Proofs.holdsK_sortWorldK_c enc k w g 0 d d' n os hH hg hs
  refine ⟨_, cap, rfl, by simpa using (by omega : d'.size ≤ cap), fun _ => ⟨g, rfl, hB, ?_, fun i hi c u hu => ?_⟩⟩
  · unfold Go.Proofs.sortWorldK
    show g < (_ ++ os : Array Obj).size
    rw [Array.size_append]
    show g < (Go.Sort.putRowK enc k (Go.Sort.ahead w n) g 0 d').heap.size + os.size
    rw [show (Go.Sort.putRowK enc k (Go.Sort.ahead w n) g 0 d').heap.size = (Go.Sort.ahead w n).heap.size from Go.Sort.size_putRow _ _ _ _ _]
    exact Nat.lt_of_lt_of_le hg (Nat.le_add_right _ _)
  · have hi' : i < d'.size := by simpa using hi
    have hc : c < k := by rw [← hk d'.toList[i]]; exact (List.getElem?_eq_some_iff.1 hu).1
    have hlt : i * k + c < (Go.Sort.flatK enc k d').size := by
      rw [Go.Sort.size_flatK]
      exact Nat.lt_of_lt_of_le (Nat.add_lt_add_left hc _) (by rw [← Nat.succ_mul]; exact Nat.mul_le_mul_right _ hi')
    have := hh (i * k + c) hlt
    rw [Nat.zero_add] at this
    refine ⟨?_, this.2⟩
    rw [this.1]
    have h2 := flat_cell hk d'.toList (i * k + c) (by rw [Go.Sort.size_flatK] at hlt; simpa using hlt)
    rw [rowC_at hk _ i hi c hc, hu] at h2
    exact h2.symm
theorem sorted_far {w : World} {g n : Nat} {os : Array Obj} {d' : Array α} (j : Nat) (hj : j < w.heap.size) (hne : j ≠ g) : (Go.Proofs.sortWorldK enc k w g 0 n d' os).heap[j]? = w.heap[j]? := by
  show (_ ++ os : Array Obj)[j]? = _
  have hz : (Go.Sort.putRowK enc k (Go.Sort.ahead w n) g 0 d').heap.size = w.heap.size := Go.Sort.size_putRow _ _ _ _ _
  rw [Array.getElem?_append_left (by show j < (Go.Sort.putRowK enc k (Go.Sort.ahead w n) g 0 d').heap.size; rw [hz]; exact hj)]
  show (w.heap.modify g _)[j]? = _
  rw [Array.getElem?_modify, if_neg (fun e => hne e.symm)]
theorem sorted_grown {w : World} {g n : Nat} {os : Array Obj} {d' : Array α} : w.grownBy (Go.Proofs.sortWorldK enc k w g 0 n d' os) (some g) := by
  refine ⟨rfl, rfl, rfl, ?_, fun j hj hne => sorted_far j hj fun e => hne (by rw [e])⟩
  show w.heap.size ≤ (_ ++ os : Array Obj).size
  rw [Array.size_append]
  show w.heap.size ≤ (Go.Sort.putRowK enc k (Go.Sort.ahead w n) g 0 d').heap.size + os.size
  rw [show (Go.Sort.putRowK enc k (Go.Sort.ahead w n) g 0 d').heap.size = w.heap.size from Go.Sort.size_putRow _ _ _ _ _]
  exact Nat.le_add_right _ _
end
end Go.Proofs.YtbfalppeifkjdaaGreatDoor
end
section
namespace Go.Proofs.YtbfalppeifkjdaaGreatDoor
def joinF (L : FeedD) (l : List FeedD) : FeedD := { L with ents := addsE [] (l.flatMap FeedD.ents) }
theorem mgF_bare (a b : FeedD) : bareF (mgF a b) = mxB cmpKF (bareF a) (bareF b) := by
  show ltF a b = _
  rw [ltF_mx, bare_mx]
theorem late_join {k : ByteArray} {l : List FeedD} {L : FeedD} (hk : ∀ f ∈ l, f.id = k) (hn : ∀ f ∈ l, NormG EntD.id cmpE f.ents) (hL : lateG (mxB cmpKF) (l.map bareF) = some (bareF L)) : lateG mgF l = some (joinF L l) := by
  have hg : grpG FeedD.id l k = l := grp_all k l hk
  have h1 : foldG FeedD.id mgF k none l = lateG mgF l := by rw [fold_late, hg]
  have h2 := fold_ents k l none NormG.nil hn
  rw [h1] at h2
  refine opt_ext ?_ ?_
  · rw [late_map bareF mgF_bare, hL]
    rfl
  · show entsO (lateG mgF l) = addsE [] (l.flatMap FeedD.ents)
    refine h2.1.ext mgE_ok.cmp (adds_norm mgE_ok _ [] NormG.nil) fun j => ?_
    unfold addsE
    rw [h2.2 j, adds_get mgE_ok j _ [] NormG.nil]
    rw [show kents k l = l.flatMap FeedD.ents by
      show (grpG FeedD.id l k).flatMap FeedD.ents = _
      rw [hg]]
    rfl
theorem mxF_assoc (a b d : FeedD) : mxB cmpKF (mxB cmpKF a b) d = mxB cmpKF a (mxB cmpKF b d) := mxB_assoc cmpKF_ok a b d
end Go.Proofs.YtbfalppeifkjdaaGreatDoor
end
