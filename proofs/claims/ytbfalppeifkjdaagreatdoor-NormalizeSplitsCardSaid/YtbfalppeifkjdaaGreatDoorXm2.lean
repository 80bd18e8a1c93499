/- Packed from the texts NmA NmB NmC NmD. -/
import Derived.Test.YtbfalppeifkjdaaGreatDoorXMeQ
import Derived.Test.YtbfalppeifkjdaaGreatDoorXk6
import Derived.Test.YtbfalppeifkjdaaGreatDoorXk8
import Derived.Test.YtbfalppeifkjdaaGreatDoorXkB
import Derived.Test.YtbfalppeifkjdaaGreatDoorXl1
section
namespace Go.Proofs.YtbfalppeifkjdaaGreatDoor
open Go.RowKit
theorem Cmp3.lt_trans {α : Type} {c : α → α → Int} (hc : Cmp3 c) {a b d : α} (h1 : c a b < 0) (h2 : c b d < 0) : c a d < 0 := by
  have := hc.min a b d (by omega) (by omega)
  omega
theorem sorted_ext {α : Type} {c : α → α → Int} (hc : Cmp3 c) : ∀ l m : List α, l.Pairwise (fun a b => c a b < 0) → m.Pairwise (fun a b => c a b < 0) → (∀ x, x ∈ l ↔ x ∈ m) → l = m
  | [], [], _, _, _ => rfl
  | [], y :: m, _, _, h => absurd ((h y).2 List.mem_cons_self) List.not_mem_nil
  | x :: l, [], _, _, h => absurd ((h x).1 List.mem_cons_self) List.not_mem_nil
  | x :: l, y :: m, hl, hm, h => by
    rw [List.pairwise_cons] at hl hm
    have hxy : x = y := by
      rcases List.mem_cons.1 ((h x).1 List.mem_cons_self) with e | hx
      · exact e
      · rcases List.mem_cons.1 ((h y).2 List.mem_cons_self) with e | hy
        · exact e.symm
        · have a1 := hl.1 y hy
          have a2 := hm.1 x hx
          have := hc.anti x y
          omega
    subst hxy
    rw [sorted_ext hc l m hl.2 hm.2 fun z => ?_]
    constructor
    · intro hz
      rcases List.mem_cons.1 ((h z).1 (List.mem_cons_of_mem _ hz)) with e | hz'
      · subst e
        have := hl.1 z hz
        have := hc.self z
        omega
      · exact hz'
    · intro hz
      rcases List.mem_cons.1 ((h z).2 (List.mem_cons_of_mem _ hz)) with e | hz'
      · subst e
        have := hm.1 z hz
        have := hc.self z
        omega
      · exact hz'
section
variable {α β : Type} [DecidableEq β] (key : α → β) (c : α → α → Int) (mg : α → α → α)
def getG (l : List α) (k : β) : Option α := l.find? fun x => decide (key x = k)
def takeG : List α → α → α × List α
  | [], e => (e, [])
  | x :: r, e => if key x = key e then takeG r (mg x e) else ((takeG r e).1, x :: (takeG r e).2)
def insG (e : α) : List α → List α
  | [] => [e]
  | x :: r => if c e x < 0 then e :: x :: r else x :: insG e r
def addG (l : List α) (e : α) : List α := insG c (takeG key mg l e).1 (takeG key mg l e).2
def mgO (o : Option α) (e : α) : α := match o with | none => e | some x => mg x e
structure NormG (l : List α) : Prop where
  srt : l.Pairwise fun a b => c a b < 0
  one : l.Pairwise fun a b => key a ≠ key b
end
section
variable {α β : Type} [DecidableEq β] {key : α → β} {c : α → α → Int} {mg : α → α → α}
theorem getG_some {l : List α} (h : l.Pairwise fun a b => key a ≠ key b) (k : β) (x : α) : getG key l k = some x ↔ x ∈ l ∧ key x = k := by
  induction l with
  | nil => simp [getG]
  | cons y r ih =>
    rw [List.pairwise_cons] at h
    have ih := ih h.2
    unfold getG at ih ⊢
    rw [List.find?_cons]
    by_cases hy : key y = k
    · rw [decide_eq_true hy]
      constructor
      · intro e
        injection e with e
        subst e
        exact ⟨List.mem_cons_self, hy⟩
      · rintro ⟨hm, hk⟩
        rcases List.mem_cons.1 hm with e | hm
        · rw [e]
        · exact absurd (hy.trans hk.symm) (h.1 x hm)
    · rw [decide_eq_false hy]
      constructor
      · intro e
        exact ⟨List.mem_cons_of_mem _ (ih.1 e).1, (ih.1 e).2⟩
      · rintro ⟨hm, hk⟩
        rcases List.mem_cons.1 hm with e | hm
        · exact absurd (e ▸ hk) hy
        · exact ih.2 ⟨hm, hk⟩
theorem getG_none {l : List α} (k : β) : getG key l k = none ↔ ∀ x ∈ l, key x ≠ k := by
  unfold getG
  rw [List.find?_eq_none]
  exact ⟨fun h x hx e => h x hx (decide_eq_true e), fun h x hx e => h x hx (of_decide_eq_true e)⟩
theorem NormG.ext (hc : Cmp3 c) {l m : List α} (hl : NormG key c l) (hm : NormG key c m) (h : ∀ k, getG key l k = getG key m k) : l = m := by
  refine sorted_ext hc l m hl.srt hm.srt fun x => ?_
  constructor
  · intro hx
    exact ((getG_some hm.one (key x) x).1 ((h _).symm.trans ((getG_some hl.one (key x) x).2 ⟨hx, rfl⟩))).1
  · intro hx
    exact ((getG_some hl.one (key x) x).1 ((h _).trans ((getG_some hm.one (key x) x).2 ⟨hx, rfl⟩))).1
theorem takeG_eq (hk : ∀ a b, key a = key b → key (mg a b) = key b) : ∀ (l : List α) (e : α), (l.Pairwise fun a b => key a ≠ key b) →
    takeG key mg l e = (mgO mg (getG key l (key e)) e, l.filter fun x => decide (key x ≠ key e))
  | [], e, _ => rfl
  | x :: r, e, h => by
    rw [List.pairwise_cons] at h
    rw [takeG]
    by_cases hx : key x = key e
    · have hk' := hk x e hx
      have hn : getG key r (key (mg x e)) = none := (getG_none _).2 fun y hy e' => h.1 y hy (hx.trans (hk'.symm.trans e'.symm))
      rw [if_pos hx, takeG_eq hk r _ h.2, hn, hk']
      have hg : getG key (x :: r) (key e) = some x := by rw [getG, List.find?_cons, decide_eq_true hx]
      rw [hg, List.filter_cons_of_neg (by rw [decide_eq_false (fun z => z hx)]; simp)]
      rfl
    · rw [if_neg hx, takeG_eq hk r _ h.2, List.filter_cons_of_pos (p := fun x => decide (key x ≠ key e)) (decide_eq_true hx)]
      have hg : getG key (x :: r) (key e) = getG key r (key e) := by rw [getG, List.find?_cons, decide_eq_false hx]; rfl
      rw [hg]
theorem mem_insG (e : α) : ∀ (l : List α) (x : α), x ∈ insG c e l ↔ x = e ∨ x ∈ l
  | [], x => by simp [insG]
  | y :: r, x => by
    rw [insG]
    split
    · rw [List.mem_cons]
    · rw [List.mem_cons, mem_insG e r x, List.mem_cons]
      constructor
      · rintro (h | h | h)
        · exact Or.inr (Or.inl h)
        · exact Or.inl h
        · exact Or.inr (Or.inr h)
      · rintro (h | h | h)
        · exact Or.inr (Or.inl h)
        · exact Or.inl h
        · exact Or.inr (Or.inr h)
theorem insG_srt (hc : Cmp3 c) (e : α) : ∀ (l : List α), (l.Pairwise fun a b => c a b < 0) → (∀ x ∈ l, c e x ≠ 0) → (insG c e l).Pairwise fun a b => c a b < 0
  | [], _, _ => List.pairwise_singleton _ _
  | y :: r, h, hn => by
    have h' := List.pairwise_cons.1 h
    rw [insG]
    by_cases hy : c e y < 0
    · rw [if_pos hy]
      refine List.pairwise_cons.2 ⟨fun z hz => ?_, h⟩
      rcases List.mem_cons.1 hz with e' | hz
      · rw [e']; exact hy
      · exact hc.lt_trans hy (h'.1 z hz)
    · rw [if_neg hy]
      refine List.pairwise_cons.2 ⟨fun z hz => ?_, insG_srt hc e r h'.2 fun x hx => hn x (List.mem_cons_of_mem _ hx)⟩
      rcases (mem_insG e r z).1 hz with e' | hz
      · have := hn y List.mem_cons_self
        have := hc.anti e y
        rw [e']
        omega
      · exact h'.1 z hz
omit [DecidableEq β] in
theorem insG_one (e : α) : ∀ (l : List α), (l.Pairwise fun a b => key a ≠ key b) → (∀ x ∈ l, key x ≠ key e) → (insG c e l).Pairwise fun a b => key a ≠ key b
  | [], _, _ => List.pairwise_singleton _ _
  | y :: r, h, hn => by
    have h' := List.pairwise_cons.1 h
    rw [insG]
    split
    · exact List.pairwise_cons.2 ⟨fun z hz => (hn z hz).symm, h⟩
    · refine List.pairwise_cons.2 ⟨fun z hz => ?_, insG_one e r h'.2 fun x hx => hn x (List.mem_cons_of_mem _ hx)⟩
      rcases (mem_insG e r z).1 hz with e' | hz
      · rw [e']; exact hn y List.mem_cons_self
      · exact h'.1 z hz
structure MgOk (key : α → β) (c : α → α → Int) (mg : α → α → α) : Prop where
  cmp : Cmp3 c
  zero : ∀ a b, c a b = 0 → key a = key b
  keep : ∀ a b, key a = key b → key (mg a b) = key b
theorem mgO_key (hM : MgOk key c mg) {l : List α} (h : NormG key c l) (e : α) : key (mgO mg (getG key l (key e)) e) = key e := by
  rcases ho : getG key l (key e) with _ | x
  · rfl
  · exact hM.keep x e ((getG_some h.one _ _).1 ho).2
theorem NormG.add (hM : MgOk key c mg) {l : List α} (h : NormG key c l) (e : α) : NormG key c (addG key c mg l e) := by
  have hkey := mgO_key hM h e
  unfold addG
  rw [takeG_eq hM.keep l e h.one]
  have hf : ∀ x ∈ l.filter (fun x => decide (key x ≠ key e)), key x ≠ key (mgO mg (getG key l (key e)) e) := fun x hx => by
    rw [hkey]
    exact of_decide_eq_true (List.mem_filter.1 hx).2
  exact ⟨insG_srt hM.cmp _ _ (h.srt.filter _) fun x hx hz => hf x hx (hM.zero _ _ hz).symm, insG_one _ _ (h.one.filter _) hf⟩
theorem getG_add (hM : MgOk key c mg) {l : List α} (h : NormG key c l) (e : α) (k : β) : getG key (addG key c mg l e) k = if key e = k then some (mgO mg (getG key l k) e) else getG key l k := by
  have hN := h.add hM e
  have hkey := mgO_key hM h e
  have hmem : ∀ x, x ∈ addG key c mg l e ↔ x = mgO mg (getG key l (key e)) e ∨ (x ∈ l ∧ key x ≠ key e) := fun x => by
    unfold addG
    rw [takeG_eq hM.keep l e h.one, mem_insG, List.mem_filter, decide_eq_true_iff]
  by_cases hk : key e = k
  · subst hk
    rw [if_pos rfl]
    exact (getG_some hN.one _ _).2 ⟨(hmem _).2 (Or.inl rfl), hkey⟩
  · rw [if_neg hk]
    rcases ho : getG key l k with _ | x
    · refine (getG_none _).2 fun x hx => ?_
      rcases (hmem x).1 hx with e' | ⟨hx, -⟩
      · rw [e', hkey]; exact hk
      · exact (getG_none _).1 ho x hx
    · obtain ⟨h1, h2⟩ := (getG_some h.one _ _).1 ho
      exact (getG_some hN.one _ _).2 ⟨(hmem x).2 (Or.inr ⟨h1, fun z => hk (z.symm.trans h2)⟩), h2⟩
def addsG (key : α → β) (c : α → α → Int) (mg : α → α → α) (l es : List α) : List α := es.foldl (addG key c mg) l
def foldG (key : α → β) (mg : α → α → α) (k : β) (o : Option α) (es : List α) : Option α := es.foldl (fun o e => if key e = k then some (mgO mg o e) else o) o
omit [DecidableEq β] in
theorem NormG.nil : NormG key c [] := ⟨List.Pairwise.nil, List.Pairwise.nil⟩
theorem adds_norm (hM : MgOk key c mg) : ∀ (es l : List α), NormG key c l → NormG key c (addsG key c mg l es)
  | [], _, h => h
  | e :: es, _, h => adds_norm hM es _ (h.add hM e)
theorem adds_get (hM : MgOk key c mg) (k : β) : ∀ (es l : List α), NormG key c l → getG key (addsG key c mg l es) k = foldG key mg k (getG key l k) es
  | [], _, _ => rfl
  | e :: es, l, h => by
    show getG key (addsG key c mg (addG key c mg l e) es) k = foldG key mg k (if key e = k then some (mgO mg (getG key l k) e) else getG key l k) es
    rw [adds_get hM k es _ (h.add hM e), getG_add hM h]
theorem foldG_skip (k : β) : ∀ (es : List α) (o : Option α), (∀ x ∈ es, key x ≠ k) → foldG key mg k o es = o
  | [], _, _ => rfl
  | e :: es, o, h => by
    show foldG key mg k (if key e = k then some (mgO mg o e) else o) es = o
    rw [if_neg (h e List.mem_cons_self)]
    exact foldG_skip k es o fun x hx => h x (List.mem_cons_of_mem _ hx)
theorem foldG_one (k : β) : ∀ (es : List α), (es.Pairwise fun a b => key a ≠ key b) → foldG key mg k none es = getG key es k
  | [], _ => rfl
  | e :: es, h => by
    rw [List.pairwise_cons] at h
    show foldG key mg k (if key e = k then some (mgO mg none e) else none) es = _
    rw [getG, List.find?_cons]
    by_cases he : key e = k
    · rw [if_pos he, decide_eq_true he]
      exact foldG_skip k es _ fun x hx z => h.1 x hx (he.trans z.symm)
    · rw [if_neg he, decide_eq_false he]
      exact foldG_one k es h.2
end
section
variable {α β : Type} [DecidableEq β] {key : α → β} {g : α → α → Int}
end
end Go.Proofs.YtbfalppeifkjdaaGreatDoor
end
section
namespace Go.Proofs.YtbfalppeifkjdaaGreatDoor
open Go.RowKit
def nokL (l : List UInt8) : Prop := (chk (ofBytes l)).2 = 0
theorem nbytes_app (a b : List UInt8) : ofBytes (a ++ b) = ofBytes a ++ ofBytes b := by
  apply ByteArray.ext
  apply Array.toList_inj.1
  rw [ByteArray.data_append, Array.toList_append, ofBytes_list, ofBytes_list, ofBytes_list]
theorem nokL_app (a b : List UInt8) (ha : nokL a) : nokL (a ++ b) ↔ nokL b := by
  unfold nokL
  rw [nbytes_app, chk_append _ _ ha]
theorem nokL_nil : nokL [] := by
  unfold nokL chk
  rw [chkAt_end _ _ (by rw [ofBytes_size]; exact Nat.le_refl _)]
theorem nokL_one (c : UInt8) (hc : c.toNat < 128) (h : isCharB (c.toNat : Int) = true) : nokL [c] := by
  have hz : (ofBytes [c]).size = 1 := ofBytes_size [c]
  have hb : byteZ (ofBytes [c]) 0 = (c.toNat : Int) := by
    rw [byteZ_at _ 0 (by omega)]; rfl
  have hd := dec_hit (ofBytes [c]) 0 1 (by omega) (by omega) (by omega) ((hit1 _ 0 (by omega)).2 (by omega))
  rw [acc1, hb] at hd
  unfold nokL chk
  rw [chkAt_eq _ 0 (by omega), hd.2, if_neg (by decide), hd.1, if_pos h, chkAt_end _ _ (by omega)]
theorem nbyteZ_get (l : List UInt8) (i : Nat) (h : i < l.length) : byteZ (ofBytes l) i = ((l[i]).toNat : Int) := by
  rw [byteZ_at _ i (by rw [ofBytes_size]; exact h)]
  simp [ofBytes, ByteArray.getElem_eq_getElem_data]
theorem nokL_head (c : UInt8) (t : List UInt8) (h : nokL (c :: t)) : ∃ a b, c :: t = a ++ b ∧ 0 < a.length ∧ nokL a ∧ nokL b ∧ ((a = [c] ∧ c.toNat < 128 ∧ isCharB (c.toNat : Int) = true) ∨ ∀ x ∈ a, 128 ≤ x.toNat) := by
  have hz : (ofBytes (c :: t)).size = t.length + 1 := ofBytes_size (c :: t)
  have h' := h
  unfold nokL chk at h'
  rw [chkAt_eq _ 0 (by omega)] at h'
  have h0 : (decP (ofBytes (c :: t)) 0).2 ≠ 0 := by
    intro e; rw [if_pos e] at h'; cases h'
  rw [if_neg h0] at h'
  have hch : isCharB ((decP (ofBytes (c :: t)) 0).1 : Int) = true := by
    cases hb : isCharB ((decP (ofBytes (c :: t)) 0).1 : Int)
    · rw [hb] at h'; cases h'
    · rfl
  obtain ⟨k, h1, h2, h3, hb⟩ : ∃ k, 1 ≤ k ∧ k ≤ 4 ∧ 0 + k ≤ (ofBytes (c :: t)).size ∧ hitB (ofBytes (c :: t)) 0 k = true := by
    apply Classical.byContradiction
    intro hno
    apply h0
    rw [dec_miss _ 0 (by omega) fun k h1 h2 h3 => by
      cases hb : hitB (ofBytes (c :: t)) 0 k
      · rfl
      · exact absurd ⟨k, h1, h2, h3, hb⟩ hno]
  have hd := dec_hit _ 0 k h1 h2 h3 hb
  rw [hd.1] at hch
  refine ⟨(c :: t).take k, (c :: t).drop k, (List.take_append_drop k _).symm, by rw [List.length_take, List.length_cons]; omega, ?_⟩
  have hal : ((c :: t).take k).length = k := by rw [List.length_take, List.length_cons]; omega
  have hsplit : ofBytes (c :: t) = ofBytes ((c :: t).take k) ++ ofBytes ((c :: t).drop k) := by rw [← nbytes_app, List.take_append_drop]
  have hza : (ofBytes ((c :: t).take k)).size = k := by rw [ofBytes_size, hal]
  have hba : hitB (ofBytes ((c :: t).take k)) 0 k = true := by
    rw [hsplit, hit_left _ _ 0 k h1 (by omega)] at hb; exact hb
  have hda := dec_hit _ 0 k h1 h2 (by omega) hba
  have hacc : accZ (ofBytes (c :: t)) 0 k (k - 1) = accZ (ofBytes ((c :: t).take k)) 0 k (k - 1) := by
    rw [hsplit, accZ_left _ _ 0 k (k - 1) (by omega)]
  have hoka : nokL ((c :: t).take k) := by
    unfold nokL chk
    rw [chkAt_eq _ 0 (by omega), hda.2, if_neg (by omega), hda.1, ← hacc, if_pos hch, chkAt_end _ _ (by omega)]
  have hokb : nokL ((c :: t).drop k) := by
    have := h
    rw [← List.take_append_drop k (c :: t)] at this
    exact (nokL_app _ _ hoka).1 this
  refine ⟨hoka, hokb, ?_⟩
  have hge : ∀ (i : Nat) (hi : i < k), 128 ≤ byteZ (ofBytes ((c :: t).take k)) i → 128 ≤ (((c :: t).take k)[i]'(by omega)).toNat := by
    intro i hi hh
    rw [nbyteZ_get _ i (by omega)] at hh
    omega
  rcases (by omega : k = 1 ∨ k = 2 ∨ k = 3 ∨ k = 4) with rfl | rfl | rfl | rfl
  · left
    have h5 := (hit1 _ 0 (by omega)).1 hb
    rw [nbyteZ_get (c :: t) 0 (by rw [List.length_cons]; omega)] at h5
    rw [acc1, nbyteZ_get (c :: t) 0 (by rw [List.length_cons]; omega)] at hch
    exact ⟨rfl, by have h6 : (c.toNat : Int) < 128 := h5; omega, hch⟩
  · right
    have h5 := (hit2 _ 0 (by omega)).1 hba
    intro x hx
    obtain ⟨i, hi, rfl⟩ := List.getElem_of_mem hx
    rw [hal] at hi
    refine hge i hi ?_
    have g0 := byteZ_lt (ofBytes ((c :: t).take 2)) 0
    rcases (by omega : i = 0 ∨ i = 1) with rfl | rfl
    · omega
    · have := h5.2.1; rw [Nat.zero_add] at this; omega
  · right
    have h5 := (hit3 _ 0 (by omega)).1 hba
    intro x hx
    obtain ⟨i, hi, rfl⟩ := List.getElem_of_mem hx
    rw [hal] at hi
    refine hge i hi ?_
    rcases (by omega : i = 0 ∨ i = 1 ∨ i = 2) with rfl | rfl | rfl
    · have := h5.1; omega
    · have := h5.2.1; rw [Nat.zero_add] at this; omega
    · have := h5.2.2.1; rw [Nat.zero_add] at this; omega
  · right
    have h5 := (hit4 _ 0 (by omega)).1 hba
    intro x hx
    obtain ⟨i, hi, rfl⟩ := List.getElem_of_mem hx
    rw [hal] at hi
    refine hge i hi ?_
    rcases (by omega : i = 0 ∨ i = 1 ∨ i = 2 ∨ i = 3) with rfl | rfl | rfl | rfl
    · have := h5.1; omega
    · have := h5.2.1; rw [Nat.zero_add] at this; omega
    · have := h5.2.2.1; rw [Nat.zero_add] at this; omega
    · have := h5.2.2.2.1; rw [Nat.zero_add] at this; omega
theorem nokL_ind {Q : List UInt8 → Prop} (h0 : Q []) (h1 : ∀ c b, c.toNat < 128 → isCharB (c.toNat : Int) = true → nokL b → Q b → Q (c :: b)) (h2 : ∀ a b, nokL a → (∀ x ∈ a, 128 ≤ x.toNat) → nokL b → Q b → Q (a ++ b)) : ∀ (f : Nat) (l : List UInt8), l.length ≤ f → nokL l → Q l
  | _, [], _, _ => h0
  | 0, c :: t, h, _ => by rw [List.length_cons] at h; omega
  | f + 1, c :: t, h, hl => by
    obtain ⟨a, b, e1, e2, e3, e4, e5⟩ := nokL_head c t hl
    have hlen : b.length ≤ f := by
      have := congrArg List.length e1
      rw [List.length_append] at this
      omega
    have ih := nokL_ind h0 h1 h2 f b hlen e4
    rcases e5 with ⟨rfl, e6, e7⟩ | e5
    · rw [e1]; exact h1 c b e6 e7 e4 ih
    · rw [e1]; exact h2 a b e3 e5 e4 ih
theorem nokL_cons (c : UInt8) (b : List UInt8) (hc : c.toNat < 128) (h : nokL b) (hh : isCharB (c.toNat : Int) = true) : nokL (c :: b) := (nokL_app [c] b (nokL_one c hc hh)).2 h
set_option maxRecDepth 100000 in
theorem nsp_high (x : UInt8) (h : 128 ≤ x.toNat) : sp x = false := by
  have hf : ∀ n : Fin 256, 128 ≤ n.val → isSpaceB (n.val : Int) = false := by decide
  exact hf ⟨x.toNat, x.toNat_lt⟩ h
theorem ncol_run : ∀ (a b : List UInt8), (∀ x ∈ a, 128 ≤ x.toNat) → colGo true false (a ++ b) = a ++ colGo true false b
  | [], _, _ => rfl
  | x :: a, b, h => by
    rw [List.cons_append, colGo, if_neg (by rw [nsp_high x (h x List.mem_cons_self)]; simp), if_neg (by simp), ncol_run a b fun y hy => h y (List.mem_cons_of_mem _ hy)]
    rfl
theorem nok_col : ∀ (l : List UInt8), nokL l → ∀ st pv, nokL (colGo st pv l) := fun l hl => by
  refine nokL_ind (Q := fun l => ∀ st pv, nokL (colGo st pv l)) ?_ ?_ ?_ l.length l (Nat.le_refl _) hl
  · intro st pv
    exact nokL_nil
  · intro c b h1 h2 _ ih st pv
    rw [colGo]
    split
    · exact ih st true
    · split
      · exact nokL_cons 32 _ (by decide) (nokL_cons c _ h1 (ih true false) h2) (by decide)
      · exact nokL_cons c _ h1 (ih true false) h2
  · intro a b h1 h2 _ ih st pv
    cases a with
    | nil => exact ih st pv
    | cons x a =>
      have hr := ncol_run a b fun y hy => h2 y (List.mem_cons_of_mem _ hy)
      have hc : nokL (x :: (a ++ colGo true false b)) := (nokL_app (x :: a) (colGo true false b) h1).2 (ih true false)
      rw [List.cons_append, colGo, if_neg (by rw [nsp_high x (h2 x List.mem_cons_self)]; simp), hr]
      split
      · exact nokL_cons 32 _ (by decide) hc (by decide)
      · exact hc
def colB (s : ByteArray) : ByteArray := ofBytes (collapse s.data.toList)
theorem nbytes_self (s : ByteArray) : ofBytes s.data.toList = s := by
  apply ByteArray.ext
  apply Array.toList_inj.1
  rw [ofBytes_list]
theorem colB_valid (s : ByteArray) (h : (chk s).2 = 0) : validB (colB s) = true := by
  have hc : (chk (colB s)).2 = 0 := nok_col s.data.toList (show (chk (ofBytes s.data.toList)).2 = 0 by rw [nbytes_self]; exact h) false false
  unfold validB
  rw [decide_eq_true hc, Bool.true_and, beq_iff_eq]
  unfold colB
  rw [ofBytes_list, collapse_again]
def chkLs : List ByteArray → Nat
  | [] => 0
  | s :: r => if (chk s).2 = 0 then chkLs r else (chk s).2
theorem chkLs_zero : ∀ l : List ByteArray, chkLs l = 0 ↔ ∀ s ∈ l, (chk s).2 = 0
  | [] => ⟨fun _ s hs => absurd hs List.not_mem_nil, fun _ => rfl⟩
  | s :: r => by
    rw [chkLs, List.forall_mem_cons]
    by_cases h : (chk s).2 = 0
    · rw [if_pos h, chkLs_zero r]
      exact ⟨fun k => ⟨h, k⟩, fun k => k.2⟩
    · rw [if_neg h]
      exact ⟨fun k => absurd k h, fun k => absurd k.1 h⟩
def entN (e : EntD) : EntD := ⟨colB e.id, colB e.title, colB e.link, colB e.content, e.upd⟩
def entZ : EntD := ⟨⟨#[]⟩, ⟨#[]⟩, ⟨#[]⟩, ⟨#[]⟩, 0⟩
def entX (e : EntD) : Nat := if chkLs [e.id, e.title, e.link, e.content] = 0 then (if (colB e.id).size = 0 then 19 else if inTB e.upd = true then 0 else 3) else chkLs [e.id, e.title, e.link, e.content]
def nrmE (e : EntD) : EntD := if entX e = 0 then entN e else entZ
theorem entX_zero (e : EntD) : entX e = 0 ↔ ((chk e.id).2 = 0 ∧ (chk e.title).2 = 0 ∧ (chk e.link).2 = 0 ∧ (chk e.content).2 = 0) ∧ (colB e.id).size ≠ 0 ∧ inTB e.upd = true := by
  have h := chkLs_zero [e.id, e.title, e.link, e.content]
  simp only [List.forall_mem_cons, List.not_mem_nil, false_implies, implies_true, and_true] at h
  unfold entX
  rw [← h]
  by_cases h1 : chkLs [e.id, e.title, e.link, e.content] = 0
  · rw [if_pos h1]
    by_cases h2 : (colB e.id).size = 0
    · rw [if_pos h2]
      exact ⟨fun k => (by cases k), fun k => absurd h2 k.2.1⟩
    · rw [if_neg h2]
      by_cases h3 : inTB e.upd = true
      · rw [if_pos h3]
        exact ⟨fun _ => ⟨h1, h2, h3⟩, fun _ => rfl⟩
      · rw [if_neg h3]
        exact ⟨fun k => (by cases k), fun k => absurd k.2.2 h3⟩
  · rw [if_neg h1]
    exact ⟨fun k => absurd k h1, fun k => absurd k.1 h1⟩
theorem okE_iff (e : EntD) : okE e = true ↔ (validB e.id = true ∧ validB e.title = true ∧ validB e.link = true ∧ validB e.content = true) ∧ e.id.size ≠ 0 ∧ inTB e.upd = true := by
  unfold okE
  simp only [Bool.and_eq_true, Bool.not_eq_true', decide_eq_false_iff_not]
  exact ⟨fun ⟨a, b, c, d, f, g⟩ => ⟨⟨a, b, c, d⟩, f, g⟩, fun ⟨⟨a, b, c, d⟩, f, g⟩ => ⟨a, b, c, d, f, g⟩⟩
theorem entN_ok (e : EntD) (h : entX e = 0) : okE (entN e) = true := by
  obtain ⟨⟨h1, h2, h3, h4⟩, h5, h6⟩ := (entX_zero e).1 h
  exact (okE_iff _).2 ⟨⟨colB_valid _ h1, colB_valid _ h2, colB_valid _ h3, colB_valid _ h4⟩, h5, h6⟩
end Go.Proofs.YtbfalppeifkjdaaGreatDoor
end
section
namespace Go.Proofs.YtbfalppeifkjdaaGreatDoor
open Go.RowKit
theorem lexI_zero {x y : Int} (h : lexI x y = 0) : x = 0 ∧ y = 0 := by
  unfold lexI at h
  by_cases hx : x = 0
  · rw [if_pos hx] at h
    exact ⟨hx, h⟩
  · rw [if_neg hx] at h
    exact absurd h hx
theorem ltE_or (a b : EntD) : ltE a b = a ∨ ltE a b = b := by
  unfold ltE
  split
  · exact Or.inr rfl
  · exact Or.inl rfl
theorem mgE_ok : MgOk EntD.id cmpE ltE := ⟨cmpE_ok, fun a b h => (cmpS_zero _ _).1 (lexI_zero h).2, fun a b h => by
  rcases ltE_or a b with e | e
  · rw [e]; exact h
  · rw [e]⟩
def addsE (l es : List EntD) : List EntD := addsG EntD.id cmpE ltE l es
theorem addsG_all {α β : Type} [DecidableEq β] {key : α → β} {c : α → α → Int} {mg : α → α → α} (P : α → Prop) (hM : ∀ a b, P a → P b → P (mg a b)) : ∀ (es l : List α), (∀ x ∈ l, P x) → (∀ x ∈ es, P x) → ∀ x ∈ addsG key c mg l es, P x
  | [], _, hl, _ => hl
  | e :: es, l, hl, he => by
    have htake : ∀ (l : List α) (e : α), (∀ x ∈ l, P x) → P e → P (takeG key mg l e).1 ∧ ∀ x ∈ (takeG key mg l e).2, P x := fun l => by
      induction l with
      | nil => exact fun e _ he => ⟨he, fun x hx => absurd hx List.not_mem_nil⟩
      | cons y r ih =>
        intro e hl he
        have hl' := List.forall_mem_cons.1 hl
        rw [takeG]
        split
        · exact ih _ hl'.2 (hM y e hl'.1 he)
        · exact ⟨(ih e hl'.2 he).1, List.forall_mem_cons.2 ⟨hl'.1, (ih e hl'.2 he).2⟩⟩
    have he' := List.forall_mem_cons.1 he
    obtain ⟨h1, h2⟩ := htake l e hl he'.1
    refine addsG_all P hM es (addG key c mg l e) (fun x hx => ?_) he'.2
    rcases (mem_insG _ _ x).1 hx with e' | hx
    · rw [e']; exact h1
    · exact h2 x hx
def lastG {α : Type} (c : α → α → Int) (pre : List α) (e : α) : Bool := match pre.getLast? with | none => true | some x => decide (c x e < 0)
theorem lastG_some {α : Type} {c : α → α → Int} {pre : List α} {e x : α} (h : pre.getLast? = some x) : lastG c pre e = decide (c x e < 0) := by unfold lastG; rw [h]
theorem lastG_none {α : Type} {c : α → α → Int} {pre : List α} {e : α} (h : pre.getLast? = none) : lastG c pre e = true := by unfold lastG; rw [h]
theorem lastOk_G (pre : List EntD) (e : EntD) : lastOk pre e = lastG cmpE pre e := by
  unfold lastOk
  rcases h : pre.getLast? with _ | x
  · rw [lastG_none h]
  · rw [lastG_some h]
theorem norm_snoc {α β : Type} [DecidableEq β] {key : α → β} {c : α → α → Int} (hc : Cmp3 c) {pre : List α} (h : NormG key c pre) (e : α) :
    NormG key c (pre ++ [e]) ↔ lastG c pre e = true ∧ (pre.any fun x => decide (key x = key e)) = false := by
  constructor
  · intro hn
    have h1 := (List.pairwise_append.1 hn.srt).2.2
    have h2 := (List.pairwise_append.1 hn.one).2.2
    refine ⟨?_, ?_⟩
    · rcases hl : pre.getLast? with _ | x
      · exact lastG_none hl
      · rw [lastG_some hl]
        exact decide_eq_true (h1 x (List.mem_of_getLast? hl) e (by simp))
    · rw [List.any_eq_false]
      intro x hx
      rw [decide_eq_true_eq]
      exact h2 x hx e (by simp)
  · rintro ⟨h1, h2⟩
    rw [List.any_eq_false] at h2
    refine ⟨List.pairwise_append.2 ⟨h.srt, List.pairwise_singleton _ _, fun a ha b hb => ?_⟩, List.pairwise_append.2 ⟨h.one, List.pairwise_singleton _ _, fun a ha b hb => ?_⟩⟩
    · rw [List.mem_singleton] at hb
      subst hb
      rcases hl : pre.getLast? with _ | x
      · rw [List.getLast?_eq_none_iff] at hl
        rw [hl] at ha
        exact absurd ha List.not_mem_nil
      · rw [lastG_some hl] at h1
        have h1 := of_decide_eq_true h1
        obtain ⟨q, rfl⟩ := List.getLast?_eq_some_iff.1 hl
        rcases List.mem_append.1 ha with ha | ha
        · exact hc.lt_trans ((List.pairwise_append.1 h.srt).2.2 a ha x (by simp)) h1
        · rw [List.mem_singleton] at ha
          rw [ha]
          exact h1
    · rw [List.mem_singleton] at hb
      subst hb
      exact fun e => h2 a ha (decide_eq_true e)
theorem norm_left {α β : Type} [DecidableEq β] {key : α → β} {c : α → α → Int} {l m : List α} (h : NormG key c (l ++ m)) : NormG key c l := ⟨(List.pairwise_append.1 h.srt).1, (List.pairwise_append.1 h.one).1⟩
theorem okEs_iff' : ∀ (l pre : List EntD), NormG EntD.id cmpE pre → (okEs pre l = true ↔ (∀ e ∈ l, okE e = true) ∧ NormG EntD.id cmpE (pre ++ l))
  | [], pre, h => ⟨fun _ => ⟨fun e he => absurd he List.not_mem_nil, by rw [List.append_nil]; exact h⟩, fun _ => rfl⟩
  | e :: r, pre, h => by
    have hs := norm_snoc cmpE_ok h e
    rw [okEs, lastOk_G, Bool.and_eq_true, Bool.and_eq_true, Bool.and_eq_true, Bool.not_eq_true', List.forall_mem_cons, show pre ++ e :: r = (pre ++ [e]) ++ r by simp]
    constructor
    · rintro ⟨h1, h2, h3, h4⟩
      have hN := hs.2 ⟨h2, h3⟩
      obtain ⟨i1, i2⟩ := (okEs_iff' r _ hN).1 h4
      exact ⟨⟨h1, i1⟩, i2⟩
    · rintro ⟨⟨h1, h2⟩, h3⟩
      have hN := norm_left h3
      obtain ⟨i1, i2⟩ := hs.1 hN
      exact ⟨h1, i1, i2, (okEs_iff' r _ hN).2 ⟨h2, h3⟩⟩
theorem okEs_iff (l : List EntD) : okEs [] l = true ↔ (∀ e ∈ l, okE e = true) ∧ NormG EntD.id cmpE l := okEs_iff' l [] NormG.nil
def entsX : List EntD → Nat
  | [] => 0
  | e :: r => if entX e = 0 then entsX r else entX e
theorem entsX_zero : ∀ l : List EntD, entsX l = 0 ↔ ∀ e ∈ l, entX e = 0
  | [] => ⟨fun _ s hs => absurd hs List.not_mem_nil, fun _ => rfl⟩
  | s :: r => by
    rw [entsX, List.forall_mem_cons]
    by_cases h : entX s = 0
    · rw [if_pos h, entsX_zero r]
      exact ⟨fun k => ⟨h, k⟩, fun k => k.2⟩
    · rw [if_neg h]
      exact ⟨fun k => absurd k h, fun k => absurd k.1 h⟩
def feedN (f : FeedD) : FeedD := ⟨f.path.map colB, colB f.id, colB f.title, colB f.link, f.upd, addsE [] (f.ents.map entN)⟩
def missF (f : FeedD) : Bool := decide ((colB f.id).size = 0) || f.path.any fun s => decide ((colB s).size = 0)
def feedX (f : FeedD) : Nat :=
  if chkLs (f.path ++ [f.id, f.title, f.link]) = 0 then
    (if missF f = true then 19 else if 64 < f.path.length then 9 else if inTB f.upd = true then entsX f.ents else 3)
  else chkLs (f.path ++ [f.id, f.title, f.link])
theorem feedX_zero (f : FeedD) : feedX f = 0 ↔ ((∀ s ∈ f.path, (chk s).2 = 0) ∧ (chk f.id).2 = 0 ∧ (chk f.title).2 = 0 ∧ (chk f.link).2 = 0) ∧ ((colB f.id).size ≠ 0 ∧ ∀ s ∈ f.path, (colB s).size ≠ 0) ∧ f.path.length ≤ 64 ∧ inTB f.upd = true ∧ ∀ e ∈ f.ents, entX e = 0 := by
  have h := chkLs_zero (f.path ++ [f.id, f.title, f.link])
  simp only [List.forall_mem_append, List.forall_mem_cons, List.not_mem_nil, false_implies, implies_true, and_true] at h
  have hm : missF f = false ↔ (colB f.id).size ≠ 0 ∧ ∀ s ∈ f.path, (colB s).size ≠ 0 := by
    unfold missF
    rw [Bool.or_eq_false_iff, decide_eq_false_iff_not, List.any_eq_false]
    simp only [decide_eq_true_eq]
    try exact Iff.rfl
  unfold feedX
  rw [← h, ← hm, ← entsX_zero]
  by_cases h1 : chkLs (f.path ++ [f.id, f.title, f.link]) = 0
  · rw [if_pos h1]
    cases hmv : missF f
    · rw [if_neg (by simp)]
      by_cases h3 : 64 < f.path.length
      · rw [if_pos h3]
        exact ⟨fun k => (by cases k), fun k => absurd k.2.2.1 (by omega)⟩
      · rw [if_neg h3]
        by_cases h4 : inTB f.upd = true
        · rw [if_pos h4]
          exact ⟨fun k => ⟨h1, rfl, by omega, h4, k⟩, fun k => k.2.2.2.2⟩
        · rw [if_neg h4]
          exact ⟨fun k => (by cases k), fun k => absurd k.2.2.2.1 h4⟩
    · rw [if_pos rfl]
      exact ⟨fun k => (by cases k), fun k => (by cases k.2.1)⟩
  · rw [if_neg h1]
    exact ⟨fun k => absurd k h1, fun k => absurd k.1 h1⟩
theorem okName_iff (s : ByteArray) : okName s = true ↔ s.size ≠ 0 ∧ validB s = true := by
  unfold okName
  rw [Bool.and_eq_true, Bool.not_eq_true', decide_eq_false_iff_not]
theorem okF_iff (f : FeedD) : okF f = true ↔ f.path.length ≤ 64 ∧ (validB f.id = true ∧ validB f.title = true ∧ validB f.link = true) ∧ f.id.size ≠ 0 ∧ inTB f.upd = true ∧ (∀ s ∈ f.path, s.size ≠ 0 ∧ validB s = true) ∧ (∀ e ∈ f.ents, okE e = true) ∧ NormG EntD.id cmpE f.ents := by
  unfold okF
  simp only [Bool.and_eq_true, Bool.not_eq_true', decide_eq_false_iff_not, decide_eq_true_eq, List.all_eq_true, okName_iff, okEs_iff]
  exact ⟨fun ⟨a, b, c, d, e, g, h, i⟩ => ⟨a, ⟨b, c, d⟩, e, g, h, i⟩, fun ⟨a, ⟨b, c, d⟩, e, g, h, i⟩ => ⟨a, b, c, d, e, g, h, i⟩⟩
theorem addsE_ok {l es : List EntD} (hl : ∀ e ∈ l, okE e = true) (hn : NormG EntD.id cmpE l) (he : ∀ e ∈ es, okE e = true) : (∀ e ∈ addsE l es, okE e = true) ∧ NormG EntD.id cmpE (addsE l es) :=
  ⟨addsG_all (fun e => okE e = true) (fun a b ha hb => by rcases ltE_or a b with e | e <;> rw [e] <;> assumption) es l hl he, adds_norm mgE_ok es l hn⟩
theorem feedN_ok (f : FeedD) (h : feedX f = 0) : okF (feedN f) = true := by
  obtain ⟨⟨h1, h2, h3, h4⟩, ⟨h5, h6⟩, h7, h8, h9⟩ := (feedX_zero f).1 h
  obtain ⟨e1, e2⟩ := addsE_ok (l := []) (es := f.ents.map entN) (fun e he => absurd he List.not_mem_nil) NormG.nil (fun e he => by
    obtain ⟨x, hx, rfl⟩ := List.mem_map.1 he
    exact entN_ok x (h9 x hx))
  refine (okF_iff _).2 ⟨?_, ⟨colB_valid _ h2, colB_valid _ h3, colB_valid _ h4⟩, h5, h8, fun s hs => ?_, e1, e2⟩
  · show (f.path.map colB).length ≤ 64
    rw [List.length_map]
    exact h7
  · obtain ⟨x, hx, rfl⟩ := List.mem_map.1 hs
    exact ⟨h6 x hx, colB_valid _ (h1 x hx)⟩
def mgF (g f : FeedD) : FeedD := { ltF g f with ents := addsE g.ents f.ents }
theorem mgF_ok : MgOk FeedD.id cmpF mgF := ⟨cmpF_ok, fun a b h => (cmpS_zero _ _).1 (lexI_zero h).2, fun a b h => by
  show (ltF a b).id = b.id
  unfold ltF bareF
  split
  · rfl
  · exact h⟩
def archX : List FeedD → Nat
  | [] => 0
  | f :: r => if feedX f = 0 then archX r else feedX f
theorem archX_zero : ∀ l : List FeedD, archX l = 0 ↔ ∀ f ∈ l, feedX f = 0
  | [] => ⟨fun _ s hs => absurd hs List.not_mem_nil, fun _ => rfl⟩
  | s :: r => by
    rw [archX, List.forall_mem_cons]
    by_cases h : feedX s = 0
    · rw [if_pos h, archX_zero r]
      exact ⟨fun k => ⟨h, k⟩, fun k => k.2⟩
    · rw [if_neg h]
      exact ⟨fun k => absurd k h, fun k => absurd k.1 h⟩
def archN (l : List FeedD) : List FeedD := addsG FeedD.id cmpF mgF [] (l.map feedN)
end Go.Proofs.YtbfalppeifkjdaaGreatDoor
end
section
namespace Go.Proofs.YtbfalppeifkjdaaGreatDoor
open Go.RowKit
theorem ltE_fun : ltE = mxB cmpK := by
  funext a b
  exact ltE_mx a b
def entsO (o : Option FeedD) : List EntD := match o with | none => [] | some f => f.ents
def kents (k : ByteArray) (es : List FeedD) : List EntD := (es.filter fun f => decide (f.id = k)).flatMap FeedD.ents
theorem foldG_app {α β : Type} [DecidableEq β] {key : α → β} {mg : α → α → α} (k : β) (o : Option α) (l m : List α) : foldG key mg k o (l ++ m) = foldG key mg k (foldG key mg k o l) m := List.foldl_append
theorem fold_ents (k : ByteArray) : ∀ (es : List FeedD) (o : Option FeedD), NormG EntD.id cmpE (entsO o) → (∀ f ∈ es, NormG EntD.id cmpE f.ents) →
    NormG EntD.id cmpE (entsO (foldG FeedD.id mgF k o es)) ∧ ∀ j, getG EntD.id (entsO (foldG FeedD.id mgF k o es)) j = foldG EntD.id ltE j (getG EntD.id (entsO o) j) (kents k es)
  | [], _, ho, _ => ⟨ho, fun _ => rfl⟩
  | e :: es, o, ho, he => by
    have he' := List.forall_mem_cons.1 he
    show NormG EntD.id cmpE (entsO (foldG FeedD.id mgF k (if e.id = k then some (mgO mgF o e) else o) es)) ∧ ∀ j, getG EntD.id (entsO (foldG FeedD.id mgF k (if e.id = k then some (mgO mgF o e) else o) es)) j = _
    by_cases hk : e.id = k
    · rw [if_pos hk]
      have h1 : NormG EntD.id cmpE (entsO (some (mgO mgF o e))) ∧ ∀ j, getG EntD.id (entsO (some (mgO mgF o e))) j = foldG EntD.id ltE j (getG EntD.id (entsO o) j) e.ents := by
        cases o with
        | none => exact ⟨he'.1, fun j => (foldG_one j e.ents he'.1.one).symm⟩
        | some x => exact ⟨adds_norm mgE_ok e.ents x.ents ho, fun j => adds_get mgE_ok j e.ents x.ents ho⟩
      obtain ⟨i1, i2⟩ := fold_ents k es (some (mgO mgF o e)) h1.1 he'.2
      refine ⟨i1, fun j => ?_⟩
      rw [i2 j, h1.2 j, show kents k (e :: es) = e.ents ++ kents k es by unfold kents; rw [List.filter_cons_of_pos (p := fun f : FeedD => decide (f.id = k)) (decide_eq_true hk), List.flatMap_cons], foldG_app]
    · rw [if_neg hk]
      obtain ⟨i1, i2⟩ := fold_ents k es o ho he'.2
      refine ⟨i1, fun j => ?_⟩
      rw [i2 j, show kents k (e :: es) = kents k es by unfold kents; rw [List.filter_cons_of_neg (p := fun f : FeedD => decide (f.id = k)) (by rw [decide_eq_false hk]; simp)]]
theorem opt_ext {o p : Option FeedD} (h1 : o.map bareF = p.map bareF) (h2 : entsO o = entsO p) : o = p := by
  cases o with
  | none => cases p with
    | none => rfl
    | some y => cases h1
  | some x => cases p with
    | none => cases h1
    | some y =>
      injection h1 with h1
      have h2 : x.ents = y.ents := h2
      obtain ⟨p1, i1, t1, l1, u1, e1⟩ := x
      obtain ⟨p2, i2, t2, l2, u2, e2⟩ := y
      unfold bareF at h1
      injection h1 with a1 a2 a3 a4 a5 a6
      subst a1 a2 a3 a4 a5
      have h2 : e1 = e2 := h2
      rw [h2]
def ooG {α : Type} (mg : α → α → α) (o t : Option α) : Option α := match o, t with | none, t => t | some x, none => some x | some x, some y => some (mg x y)
theorem foldG_oo {α β : Type} [DecidableEq β] {key : α → β} {mg : α → α → α} (ha : ∀ a b c, mg (mg a b) c = mg a (mg b c)) (k : β) : ∀ (m : List α) (o : Option α), foldG key mg k o m = ooG mg o (foldG key mg k none m)
  | [], o => by cases o <;> rfl
  | e :: m, o => by
    show foldG key mg k (if key e = k then some (mgO mg o e) else o) m = ooG mg o (foldG key mg k (if key e = k then some e else none) m)
    by_cases hk : key e = k
    · rw [if_pos hk, if_pos hk, foldG_oo ha k m (some (mgO mg o e)), foldG_oo ha k m (some e)]
      cases o with
      | none => cases foldG key mg k none m <;> rfl
      | some x => cases foldG key mg k none m with
        | none => rfl
        | some y =>
          show some (mg (mg x e) y) = some (mg x (mg e y))
          rw [ha]
    · rw [if_neg hk, if_neg hk]
      exact foldG_oo ha k m o
theorem adds_adds {α β : Type} [DecidableEq β] {key : α → β} {c : α → α → Int} {mg : α → α → α} (hM : MgOk key c mg) (ha : ∀ a b c, mg (mg a b) c = mg a (mg b c)) {l : List α} (hl : NormG key c l) (m : List α) : addsG key c mg l (addsG key c mg [] m) = addsG key c mg l m := by
  have hN := adds_norm hM m [] NormG.nil
  refine (adds_norm hM _ l hl).ext hM.cmp (adds_norm hM m l hl) fun k => ?_
  rw [adds_get hM k _ l hl, adds_get hM k m l hl, foldG_oo ha k (addsG key c mg [] m), foldG_one k _ hN.one, adds_get hM k m [] NormG.nil, foldG_oo ha k m (getG key l k)]
  rfl
theorem ltE_assoc (a b c : EntD) : ltE (ltE a b) c = ltE a (ltE b c) := by
  rw [ltE_fun]
  exact mxB_assoc cmpK_ok a b c
theorem entsX_app : ∀ l m : List EntD, entsX (l ++ m) = if entsX l = 0 then entsX m else entsX l
  | [], _ => rfl
  | e :: l, m => by
    rw [List.cons_append, entsX, entsX]
    by_cases h : entX e = 0
    · rw [if_pos h, if_pos h, entsX_app l m]
    · rw [if_neg h, if_neg h, if_neg h]
theorem split_ok (f : FeedD) (l m : List EntD) (h : f.ents = l ++ m) : archX [f] = archX [{ f with ents := l }, { f with ents := m }] ∧ (archX [f] = 0 → archN [f] = archN [{ f with ents := l }, { f with ents := m }]) := by
  constructor
  · have one : ∀ g : FeedD, (if feedX g = 0 then 0 else feedX g) = feedX g := fun g => by split <;> simp_all
    show (if feedX f = 0 then 0 else feedX f) = if feedX { f with ents := l } = 0 then (if feedX { f with ents := m } = 0 then 0 else feedX { f with ents := m }) else feedX { f with ents := l }
    rw [one, one]
    unfold feedX missF
    rw [h, entsX_app]
    dsimp only
    generalize chkLs (f.path ++ [f.id, f.title, f.link]) = c
    generalize (decide ((colB f.id).size = 0) || f.path.any fun s => decide ((colB s).size = 0)) = z
    generalize entsX l = a
    generalize entsX m = b
    by_cases hc : c = 0
    · rw [if_pos hc, if_pos hc, if_pos hc]
      cases z
      · simp only [Bool.false_eq_true, if_false]
        by_cases h6 : 64 < f.path.length
        · rw [if_pos h6, if_pos h6, if_neg (by decide)]
        · rw [if_neg h6, if_neg h6, if_neg h6]
          by_cases hT : inTB f.upd = true
          · rw [if_pos hT, if_pos hT, if_pos hT]
          · rw [if_neg hT, if_neg hT, if_neg (by decide)]
      · simp
    · rw [if_neg hc, if_neg hc, if_neg hc]
  · intro _
    show [feedN f] = addG FeedD.id cmpF mgF [feedN { f with ents := l }] (feedN { f with ents := m })
    unfold addG
    rw [takeG, if_pos (show (feedN { f with ents := l }).id = (feedN { f with ents := m }).id from rfl)]
    show [feedN f] = [mgF (feedN { f with ents := l }) (feedN { f with ents := m })]
    congr 1
    have hb : bareF (feedN { f with ents := l }) = bareF (feedN { f with ents := m }) := rfl
    have he : (feedN f).ents = addsE (feedN { f with ents := l }).ents (feedN { f with ents := m }).ents := by
      show addsE [] (f.ents.map entN) = addsE (addsE [] (l.map entN)) (addsE [] (m.map entN))
      rw [h, List.map_append]
      unfold addsE
      rw [adds_adds mgE_ok ltE_assoc (adds_norm mgE_ok _ [] NormG.nil)]
      unfold addsG
      rw [List.foldl_append]
    have hf : feedN f = { bareF (feedN { f with ents := m }) with ents := (feedN f).ents } := rfl
    rw [hf, he]
    unfold mgF
    rw [ltF_mx, bare_mx, hb, mxB_self]
end Go.Proofs.YtbfalppeifkjdaaGreatDoor
end
