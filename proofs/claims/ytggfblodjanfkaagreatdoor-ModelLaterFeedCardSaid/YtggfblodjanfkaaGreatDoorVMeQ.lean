/- Packed from the texts MeQ. -/
import Derived.Test.YtggfblodjanfkaaGreatDoorVMeJ
import Derived.Test.YtggfblodjanfkaaGreatDoorVMeK
import Derived.Test.YtggfblodjanfkaaGreatDoorVk9
import Derived.Test.YtggfblodjanfkaaGreatDoorVl6
import Derived.Test.YtggfblodjanfkaaGreatDoorVl8
import Derived.Laws.OwnMore
section
namespace Go.Proofs.YtggfblodjanfkaaGreatDoor
open Go.RowKit
def FSmU (f : FeedD) : Prop := FSm f ∧ -9223372036854775808 ≤ f.upd ∧ f.upd ≤ 9223372036854775807
theorem fsz_smallQ {f : FeedD} (h : FSm f) : FSz f := ⟨by have := h.id; omega, by have := h.title; omega, by have := h.link; omega, fun s hs => by have := h.path s hs; omega, by have := h.plen; omega, fun e he => by have := h.ents e he; omega, by have := h.elen; omega⟩
theorem bare_smallU {f : FeedD} (h : FSmU f) : FSmU (bareF f) := ⟨⟨h.1.id, h.1.title, h.1.link, h.1.path, h.1.plen, h.1.qu, fun e he => (by cases he), Nat.zero_le _⟩, h.2⟩
theorem ltF_smallU {f g : FeedD} (hf : FSmU f) (hg : FSmU g) : FSmU (ltF f g) := by
  unfold ltF
  split
  · exact bare_smallU hg
  · exact bare_smallU hf
theorem bareF_of {f : FeedD} (h : f.ents = []) : bareF f = f := by
  obtain ⟨p, i, t, l, u, e⟩ := f
  subst h
  rfl
theorem ltF_self {f : FeedD} (h : f.ents = []) : ltF f f = f := by rw [ltF_mx, mxB_self, bareF_of h]
theorem bare_mx (a b : FeedD) : bareF (mxB cmpKF a b) = mxB cmpKF (bareF a) (bareF b) := by
  unfold mxB
  rw [show cmpKF (bareF a) (bareF b) = cmpKF a b from rfl]
  split <;> rfl
theorem bare_bare (a : FeedD) : bareF (bareF a) = bareF a := rfl
theorem ltF_assoc (a b c : FeedD) : ltF (ltF a b) c = ltF a (ltF b c) := by
  rw [ltF_mx (ltF a b), ltF_mx a (ltF b c), ltF_mx a b, ltF_mx b c]
  simp only [bare_mx, bare_bare]
  exact mxB_assoc cmpKF_ok _ _ _
theorem jnS_end : ∀ (f : Bool) (l m : List ByteArray) (t r : List UInt8), vaS l = true → vaS m = true → jnS f l ++ 93 :: t = jnS f m ++ 93 :: r → l = m ∧ t = r
  | f, [], [], t, r, _, _, h => by
    rw [jnS, List.nil_append, List.nil_append] at h
    injection h with _ h
    exact ⟨rfl, h⟩
  | f, [], b :: m, t, r, _, _, h => by
    rw [jnS, jnS, List.nil_append] at h
    unfold quoteJ at h
    cases f <;> · simp at h
  | f, a :: l, [], t, r, _, _, h => by
    rw [jnS, jnS, List.nil_append] at h
    unfold quoteJ at h
    cases f <;> · simp at h
  | f, a :: l, b :: m, t, r, ha, hb, h => by
    have ha' : vaL a.data.toList = true ∧ vaS l = true := by
      rw [show vaS (a :: l) = (vaL a.data.toList && vaS l) from rfl, Bool.and_eq_true] at ha
      exact ha
    have hb' : vaL b.data.toList = true ∧ vaS m = true := by
      rw [show vaS (b :: m) = (vaL b.data.toList && vaS m) from rfl, Bool.and_eq_true] at hb
      exact hb
    rw [jnS, jnS] at h
    simp only [List.append_assoc] at h
    have h2 := List.append_cancel_left h
    obtain ⟨h3, h4⟩ := quote_inj a.data.toList b.data.toList _ _ ha'.1 hb'.1 h2
    obtain ⟨h5, h6⟩ := jnS_end false l m t r ha'.2 hb'.2 h4
    exact ⟨by rw [h5, ByteArray.ext (Array.ext' h3)], h6⟩
theorem fk_inj (a b : FeedD) (a0 : -9223372036854775808 ≤ a.upd) (a1 : a.upd ≤ 9223372036854775807) (b0 : -9223372036854775808 ≤ b.upd) (b1 : b.upd ≤ 9223372036854775807) (ha : fkL a ≠ []) (h : fkL a = fkL b) : bareF a = bareF b := by
  have va : (vaS a.path && vaS [a.id, a.title, a.link]) = true := by
    cases hv : (vaS a.path && vaS [a.id, a.title, a.link])
    · exact absurd (by unfold fkL; rw [if_neg (by rw [hv]; simp)]) ha
    · rfl
  have vb : (vaS b.path && vaS [b.id, b.title, b.link]) = true := by
    cases hv : (vaS b.path && vaS [b.id, b.title, b.link])
    · have : fkL b = [] := by unfold fkL; rw [if_neg (by rw [hv]; simp)]
      exact absurd (h.trans this) ha
    · rfl
  unfold fkL at h
  rw [if_pos va, if_pos vb] at h
  injection h with _ h
  injection h with _ h
  rw [Bool.and_eq_true] at va vb
  obtain ⟨hp, h2⟩ := jnS_end true _ _ _ _ va.1 vb.1 h
  injection h2 with _ h2
  obtain ⟨hs, h3⟩ := jnS_inj true _ _ _ _ va.2 vb.2 rfl h2
  injection h3 with _ h3
  have h4 := itoa_inj a.upd b.upd a0 a1 b0 b1 (List.append_cancel_right h3)
  obtain ⟨p1, i1, t1, l1, u1, e1⟩ := a
  obtain ⟨p2, i2, t2, l2, u2, e2⟩ := b
  simp only [List.cons.injEq, and_true] at hs hp h4
  obtain ⟨rfl, rfl, rfl⟩ := hs
  subst hp h4
  rfl
theorem fk_valid {f : FeedD} (hu : fkL f = []) : (vaS f.path && vaS [f.id, f.title, f.link]) = false := by
  cases hv : (vaS f.path && vaS [f.id, f.title, f.link])
  · rfl
  · unfold fkL at hu
    rw [if_pos hv] at hu
    cases hu
theorem lexF_zero {x y : Int} (h : lexI x y = 0) : y = 0 := by
  unfold lexI at h
  split at h
  · exact h
  · rename_i hn
    exact absurd h hn
theorem chk_va (s : ByteArray) : ∀ (f i : Nat), s.size - i ≤ f → i ≤ s.size → (chkAt s i).2 = 0 → vaL (s.data.toList.drop i) = true
  | f, i, hf, hi, h => by
    have hlen : s.data.toList.length = s.size := by simp
    by_cases hlt : i < s.size
    · have hne : s.data.toList.drop i ≠ [] := fun e => by
        have := congrArg List.length e
        rw [List.length_drop, List.length_nil] at this
        omega
      have hd := decP_drop s i hi
      have hok := (decL_ok _ hne).1
      rw [List.length_drop] at hok
      rw [chkAt_eq s i hlt, hd] at h
      rw [vaL_eq _ hne]
      by_cases h0 : (decL (s.data.toList.drop i)).2 = 0
      · rw [if_pos h0] at h
        cases h
      · rw [if_neg h0] at h ⊢
        cases hc : isCharB (decL (s.data.toList.drop i)).1
        · rw [hc, if_neg (by simp)] at h
          cases h
        · rw [hc, if_pos rfl] at h
          rw [List.drop_drop]
          match f, hf with
          | 0, hf => omega
          | f + 1, hf => exact chk_va s f _ (by omega) (by omega) h
    · rw [List.drop_eq_nil_of_le (by omega)]
      exact vaL_nil
theorem valid_va {s : ByteArray} (h : validB s = true) : vaL s.data.toList = true := by
  unfold validB at h
  rw [Bool.and_eq_true, decide_eq_true_iff] at h
  exact chk_va s s.size 0 (by omega) (Nat.zero_le _) h.1
theorem okF_va {f : FeedD} (h : okF f = true) : (vaS f.path && vaS [f.id, f.title, f.link]) = true := by
  unfold okF at h
  simp only [Bool.and_eq_true] at h
  obtain ⟨-, h1, h2, h3, -, -, h4, -⟩ := h
  rw [Bool.and_eq_true]
  refine ⟨List.all_eq_true.2 fun s hs => ?_, ?_⟩
  · have := List.all_eq_true.1 h4 s hs
    unfold okName at this
    rw [Bool.and_eq_true] at this
    exact valid_va this.2
  · unfold vaS
    rw [List.all_cons, List.all_cons, List.all_cons, List.all_nil, valid_va h1, valid_va h2, valid_va h3]
    rfl
theorem mq_row {w : World} {B n c : Nat} {T : TypeId} {p : Option Addr} {xs : List Value} (h : w.ownsRow B T 1 (.slice p n c) n xs) : ∀ ad, p = some ad → 0 < n → B ≤ ad.block ∧ ad.block < w.heap.size := fun ad hp hn => by
  obtain ⟨g, cap, hv, h1, h2⟩ := h.form hn
  injection hv with hq _ _
  rw [hp] at hq
  injection hq with hq
  subst hq
  exact ⟨h1, h2⟩
theorem mq_nam {w : World} {B : Nat} {T : TypeId} {p : Option Addr} {c : Nat} {l : List ByteArray} (ho : w.ownsRow B T 1 (.slice p l.length c) l.length (l.map Value.string)) : NamAt w p l := fun i hi => by
  obtain ⟨g, cap, hv, -, -⟩ := ho.form (by omega)
  injection hv with hp _ hc
  subst hp hc
  exact nam_own ho i hi
theorem mq_far {w : World} {b k o : Nat} {T : TypeId} {cs : Array Value} (h : MBlk w b cs T) (hne : b ≠ k) (v : Value) : MBlk (w.setCell ⟨k, o, none⟩ v) b cs T := by
  unfold MBlk
  rw [Below.heap_setCell _ _ _ _ hne]
  exact h
theorem mq_far6 {w : World} {b k : Nat} {T : TypeId} {cs : Array Value} (h : MBlk w b cs T) (hne : b ≠ k) (v0 v1 v2 v3 v4 v5 : Value) : MBlk ((((((w.setCell ⟨k, 0, none⟩ v0).setCell ⟨k, 1, none⟩ v1).setCell ⟨k, 2, none⟩ v2).setCell ⟨k, 3, none⟩ v3).setCell ⟨k, 4, none⟩ v4).setCell ⟨k, 5, none⟩ v5) b cs T := mq_far (mq_far (mq_far (mq_far (mq_far (mq_far h hne _) hne _) hne _) hne _) hne _) hne _
theorem mq_namfar {w : World} {k o : Nat} {p : Option Addr} {l : List ByteArray} (h : NamAt w p l) (hne : ∀ ad, p = some ad → 0 < l.length → ad.block ≠ k) (v : Value) : NamAt (w.setCell ⟨k, o, none⟩ v) p l := fun i hi => by
  obtain ⟨a, ha, hc⟩ := h i hi
  refine ⟨a, ha, ?_⟩
  have hb : (a.add i).block = a.block := by unfold Addr.add; split <;> rfl
  rw [World.cell?_of_block (w := w)]
  · exact hc
  · rw [hb, Below.heap_setCell _ _ _ _ (hne a ha (by omega))]
theorem mq_namfar6 {w : World} {k : Nat} {p : Option Addr} {l : List ByteArray} (h : NamAt w p l) (hne : ∀ ad, p = some ad → 0 < l.length → ad.block ≠ k) (v0 v1 v2 v3 v4 v5 : Value) : NamAt ((((((w.setCell ⟨k, 0, none⟩ v0).setCell ⟨k, 1, none⟩ v1).setCell ⟨k, 2, none⟩ v2).setCell ⟨k, 3, none⟩ v3).setCell ⟨k, 4, none⟩ v4).setCell ⟨k, 5, none⟩ v5) p l := mq_namfar (mq_namfar (mq_namfar (mq_namfar (mq_namfar (mq_namfar h hne _) hne _) hne _) hne _) hne _) hne _
theorem mq_belowset6 {B : Nat} {v w : World} {k : Nat} (h : Below B v w) (hk : B ≤ k) (v0 v1 v2 v3 v4 v5 : Value) : Below B v ((((((w.setCell ⟨k, 0, none⟩ v0).setCell ⟨k, 1, none⟩ v1).setCell ⟨k, 2, none⟩ v2).setCell ⟨k, 3, none⟩ v3).setCell ⟨k, 4, none⟩ v4).setCell ⟨k, 5, none⟩ v5) :=
  ((((((h.setCell (p := ⟨k, 0, none⟩) hk v0).setCell (p := ⟨k, 1, none⟩) hk v1).setCell (p := ⟨k, 2, none⟩) hk v2).setCell (p := ⟨k, 3, none⟩) hk v3).setCell (p := ⟨k, 4, none⟩) hk v4).setCell (p := ⟨k, 5, none⟩) hk v5)
theorem mq_key {f : FeedD} (h : FSmU f) (v : Value) (w : World) (hF : FeedIs w f v) (hT : TabW w) : Calls Tryz.prog 31 #[v] w fun e w' => e = .returned (.string (ofBytes (fkL f))) ∧ Below w.heap.size w w' :=
  mc_FeedKey f v w hF (by have := h.1.qu; omega) (by have := h.1.id; have := h.1.title; have := h.1.link; omega) (by have := h.1.plen; omega) h.2.1 h.2.2 hT
theorem mq_later {f g : FeedD} (hf : FSmU f) (hg : FSmU g) (v u : Value) (w : World) (hF : FeedIs w f v) (hG : FeedIs w g u) (hT : TabW w) : Calls Tryz.prog 14 #[v, u] w fun e w' => ∃ p' c', e = .returned (.agg #[.slice p' (ltF f g).path.length c', .string (ltF f g).id, .string (ltF f g).title, .string (ltF f g).link, .int .i64 (ltF f g).upd, .slice none 0 0]) ∧ w'.ownsRow w.heap.size 9 1 (.slice p' (ltF f g).path.length c') (ltF f g).path.length ((ltF f g).path.map Value.string) ∧ Below w.heap.size w w' :=
  mc_LaterFeed f g v u w hF hG (by have := hf.1.plen; omega) (by have := hg.1.plen; omega) (fun wx hb => mq_key hf v wx (hF.below hb) (TabW_below hT hb)) (fun wx hb => mq_key hg u wx (hG.below hb) (TabW_below hT hb))
theorem mqr_key {f : FeedD} (h : FSmU f) (v : Value) (w : World) (hF : FeedIs w f v) : Calls Tryz.prog 34 #[v] w fun e w' => e = .returned (.string (ofBytes (fkL f))) ∧ Below w.heap.size w w' :=
  mref_FeedKey f v w hF (fun s hs => by have := h.1.path s hs; omega) (by have := h.1.qu; omega) (by have := h.1.plen; omega) (by have := h.1.id; omega) (by have := h.1.title; omega) (by have := h.1.link; omega) h.2.1 h.2.2
theorem mqr_later {f g : FeedD} (hf : FSmU f) (hg : FSmU g) (v u : Value) (w : World) (hF : FeedIs w f v) (hG : FeedIs w g u) : Calls Tryz.prog 16 #[v, u] w fun e w' => (∃ x, e = .returned x ∧ FeedIs w' (ltF f g) x) ∧ Below w.heap.size w w' :=
  mref_LaterFeed f g v u w hF hG (by have := hf.1.plen; omega) (by have := hg.1.plen; omega) (fun wx vx hx => mqr_key hf vx wx hx) (fun wx vx hx => mqr_key hg vx wx hx)
theorem mq_same {f : FeedD} (hf : FSmU f) (v u : Value) (w : World) (hF : FeedIs w f v) (hG : FeedIs w f u) : Calls Tryz.prog 15 #[v, u] w fun e w' => e = .returned (.bool true) ∧ Below w.heap.size w w' := by
  have h := mref_Same f f v u w hF hG (by have := hf.1.plen; omega) (by have := hf.1.plen; omega) (by have := hf.1.elen; omega)
  rwa [(sameB_iff f f).2 rfl] at h
theorem ltF_comm {a b : FeedD} (ha : FSmU a) (hb : FSmU b) (h : okF a = true) : ltF b a = ltF a b := by
  rw [ltF_mx, ltF_mx, bare_mx, bare_mx]
  refine mxB_comm cmpKF_ok (bareF a) (bareF b) fun h0 => ?_
  have hk : fkL a = fkL b := (cmpL_zero _ _).1 (lexF_zero h0)
  refine fk_inj a b ha.2.1 ha.2.2 hb.2.1 hb.2.2 (fun hu => ?_) hk
  have hv := fk_valid hu
  rw [okF_va h] at hv
  cases hv
set_option maxRecDepth 100000 in
set_option maxHeartbeats 128000000 in
theorem walk_LaterFeedA (a b c : FeedD) (v1 v2 v3 : Value) (w : World) (ha : FeedIs w a v1) (hb : FeedIs w b v2) (hc : FeedIs w c v3) (hOa : FOpen a) (hOb : FOpen b) (hOc : FOpen c) (hT : TabW w) (hl1 : tlF 0 [a] = true) :
    Calls Tryz.prog 4 #[v1, v2, v3] w fun e' w' => e' = .returned (.bool true) ∧ Below w.heap.size w w' := by
  obtain ⟨p1, c1, q1, d1, rfl, hp1, he1⟩ := ha
  have ha : FeedIs w a (.agg #[.slice p1 a.path.length c1, .string a.id, .string a.title, .string a.link, .int .i64 a.upd, .slice q1 a.ents.length d1]) := ⟨p1, c1, q1, d1, rfl, hp1, he1⟩
  clear hp1 he1
  obtain ⟨p2, c2, q2, d2, rfl, hp2, he2⟩ := hb
  have hb : FeedIs w b (.agg #[.slice p2 b.path.length c2, .string b.id, .string b.title, .string b.link, .int .i64 b.upd, .slice q2 b.ents.length d2]) := ⟨p2, c2, q2, d2, rfl, hp2, he2⟩
  clear hp2 he2
  obtain ⟨p3, c3, q3, d3, rfl, hp3, he3⟩ := hc
  have hc : FeedIs w c (.agg #[.slice p3 c.path.length c3, .string c.id, .string c.title, .string c.link, .int .i64 c.upd, .slice q3 c.ents.length d3]) := ⟨p3, c3, q3, d3, rfl, hp3, he3⟩
  clear hp3 he3
  obtain ⟨W0, hW0⟩ : ∃ W0, W0 = (((w.alloc (.cells #[.slice p1 a.path.length c1, .string a.id, .string a.title, .string a.link, .int .i64 a.upd, .slice q1 a.ents.length d1] 30)).alloc (.cells #[.slice p2 b.path.length c2, .string b.id, .string b.title, .string b.link, .int .i64 b.upd, .slice q2 b.ents.length d2] 30)).alloc (.cells #[.slice p3 c.path.length c3, .string c.id, .string c.title, .string c.link, .int .i64 c.upd, .slice q3 c.ents.length d3] 30)) := ⟨_, rfl⟩
  have hB0 : Below w.heap.size w W0 := by rw [hW0]; exact ((((Below.refl _ _).alloc (by simp) _).alloc (by simp; try omega) _).alloc (by simp; try omega) _)
  have hX0 : FBox W0 w.heap.size a p1 c1 q1 d1 := by
    have hnn := FBox.new w a p1 c1 q1 d1
    rw [hW0]
    exact ((hnn).below ((Below.refl _ _).alloc (Nat.le_refl _) _)).below ((Below.refl _ _).alloc (Nat.le_refl _) _)
  have hX1 : FBox W0 (w.heap.size + 1) b p2 c2 q2 d2 := by
    have hnn := FBox.new (w.alloc (.cells #[.slice p1 a.path.length c1, .string a.id, .string a.title, .string a.link, .int .i64 a.upd, .slice q1 a.ents.length d1] 30)) b p2 c2 q2 d2
    rw [World.size_alloc] at hnn
    rw [hW0]
    exact (hnn).below ((Below.refl _ _).alloc (Nat.le_refl _) _)
  have hX2 : FBox W0 (w.heap.size + 2) c p3 c3 q3 d3 := by
    have hnn := FBox.new ((w.alloc (.cells #[.slice p1 a.path.length c1, .string a.id, .string a.title, .string a.link, .int .i64 a.upd, .slice q1 a.ents.length d1] 30)).alloc (.cells #[.slice p2 b.path.length c2, .string b.id, .string b.title, .string b.link, .int .i64 b.upd, .slice q2 b.ents.length d2] 30)) c p3 c3 q3 d3
    rw [World.size_alloc, World.size_alloc] at hnn
    rw [hW0]
    exact hnn
  have hS : FBox W0 w.heap.size a p1 c1 q1 d1 ∧ FBox W0 (w.heap.size + 1) b p2 c2 q2 d2 ∧ FBox W0 (w.heap.size + 2) c p3 c3 q3 d3 ∧ True := ⟨hX0, hX1, hX2, trivial⟩
  have HSB := Lib.hid (fun (u1 u2 : World) (hb : Below u1.heap.size u1 u2) (hss : FBox u1 w.heap.size a p1 c1 q1 d1 ∧ FBox u1 (w.heap.size + 1) b p2 c2 q2 d2 ∧ FBox u1 (w.heap.size + 2) c p3 c3 q3 d3 ∧ True) => (show FBox u2 w.heap.size a p1 c1 q1 d1 ∧ FBox u2 (w.heap.size + 1) b p2 c2 q2 d2 ∧ FBox u2 (w.heap.size + 2) c p3 c3 q3 d3 ∧ True from ⟨hss.1.below hb, hss.2.1.below hb, hss.2.2.1.below hb, trivial⟩))
  clear hX0 hX1 hX2
  have qcA := Lib.hid (fun wx (hbl : Below w.heap.size w wx) => mc_alive wx (TabW_below hT hbl))
  have cL1 := fun wx (hbl : Below w.heap.size w wx) => law_large a _ wx (ha.below hbl) hOa.1
  have cL2 := fun wx (hbl : Below w.heap.size w wx) => law_large b _ wx (hb.below hbl) hOb.1
  have cL3 := fun wx (hbl : Below w.heap.size w wx) => law_large c _ wx (hc.below hbl) hOc.1
  have HS := Lib.hid hS
  have HB := Lib.hid hB0
  rw [hl1] at cL1
  have qcL1 := Lib.hid cL1
  clear cL1 cL2 cL3 hl1 hS hB0 hT ha hb hc hOa hOb hOc
  go_enter Tryz.func4, Tryz.ntmps4
  go_upto_region 1 with fail
  simp only [← hW0]
  clear hW0
  obtain ⟨⟨f00, f01, f02, f03, f04, f05⟩, ⟨f10, f11, f12, f13, f14, f15⟩, ⟨f20, f21, f22, f23, f24, f25⟩, -⟩ := id HS.out
  go_wp2_with fail
  refine (qcL1.out _ HB.out).mono ?_
  rintro e1 w1 ⟨rfl, b1⟩
  replace HS := Lib.hid (HSB.out _ _ b1 HS.out)
  replace HB := Lib.hid (HB.out.trans (b1.mono HB.out.size))
  clear b1
  clear f00 f01 f02 f03 f04 f05 f10 f11 f12 f13 f14 f15 f20 f21 f22 f23 f24 f25
  obtain ⟨⟨f00, f01, f02, f03, f04, f05⟩, ⟨f10, f11, f12, f13, f14, f15⟩, ⟨f20, f21, f22, f23, f24, f25⟩, -⟩ := id HS.out
  go_wp2_with fail
  refine (qcA.out _ HB.out).mono ?_
  rintro e2 w2 ⟨rfl, b2⟩
  replace HS := Lib.hid (HSB.out _ _ b2 HS.out)
  replace HB := Lib.hid (HB.out.trans (b2.mono HB.out.size))
  clear b2
  clear f00 f01 f02 f03 f04 f05 f10 f11 f12 f13 f14 f15 f20 f21 f22 f23 f24 f25
  obtain ⟨⟨f00, f01, f02, f03, f04, f05⟩, ⟨f10, f11, f12, f13, f14, f15⟩, ⟨f20, f21, f22, f23, f24, f25⟩, -⟩ := id HS.out
  go_wp2
  go_ret
  exact ⟨rfl, HB.out⟩
set_option maxRecDepth 100000 in
set_option maxHeartbeats 128000000 in
theorem walk_LaterFeedB (a b c : FeedD) (v1 v2 v3 : Value) (w : World) (ha : FeedIs w a v1) (hb : FeedIs w b v2) (hc : FeedIs w c v3) (hOa : FOpen a) (hOb : FOpen b) (hOc : FOpen c) (hT : TabW w) (hl1 : tlF 0 [a] = false) (hl2 : tlF 0 [b] = true) :
    Calls Tryz.prog 4 #[v1, v2, v3] w fun e' w' => e' = .returned (.bool true) ∧ Below w.heap.size w w' := by
  obtain ⟨p1, c1, q1, d1, rfl, hp1, he1⟩ := ha
  have ha : FeedIs w a (.agg #[.slice p1 a.path.length c1, .string a.id, .string a.title, .string a.link, .int .i64 a.upd, .slice q1 a.ents.length d1]) := ⟨p1, c1, q1, d1, rfl, hp1, he1⟩
  clear hp1 he1
  obtain ⟨p2, c2, q2, d2, rfl, hp2, he2⟩ := hb
  have hb : FeedIs w b (.agg #[.slice p2 b.path.length c2, .string b.id, .string b.title, .string b.link, .int .i64 b.upd, .slice q2 b.ents.length d2]) := ⟨p2, c2, q2, d2, rfl, hp2, he2⟩
  clear hp2 he2
  obtain ⟨p3, c3, q3, d3, rfl, hp3, he3⟩ := hc
  have hc : FeedIs w c (.agg #[.slice p3 c.path.length c3, .string c.id, .string c.title, .string c.link, .int .i64 c.upd, .slice q3 c.ents.length d3]) := ⟨p3, c3, q3, d3, rfl, hp3, he3⟩
  clear hp3 he3
  obtain ⟨W0, hW0⟩ : ∃ W0, W0 = (((w.alloc (.cells #[.slice p1 a.path.length c1, .string a.id, .string a.title, .string a.link, .int .i64 a.upd, .slice q1 a.ents.length d1] 30)).alloc (.cells #[.slice p2 b.path.length c2, .string b.id, .string b.title, .string b.link, .int .i64 b.upd, .slice q2 b.ents.length d2] 30)).alloc (.cells #[.slice p3 c.path.length c3, .string c.id, .string c.title, .string c.link, .int .i64 c.upd, .slice q3 c.ents.length d3] 30)) := ⟨_, rfl⟩
  have hB0 : Below w.heap.size w W0 := by rw [hW0]; exact ((((Below.refl _ _).alloc (by simp) _).alloc (by simp; try omega) _).alloc (by simp; try omega) _)
  have hX0 : FBox W0 w.heap.size a p1 c1 q1 d1 := by
    have hnn := FBox.new w a p1 c1 q1 d1
    rw [hW0]
    exact ((hnn).below ((Below.refl _ _).alloc (Nat.le_refl _) _)).below ((Below.refl _ _).alloc (Nat.le_refl _) _)
  have hX1 : FBox W0 (w.heap.size + 1) b p2 c2 q2 d2 := by
    have hnn := FBox.new (w.alloc (.cells #[.slice p1 a.path.length c1, .string a.id, .string a.title, .string a.link, .int .i64 a.upd, .slice q1 a.ents.length d1] 30)) b p2 c2 q2 d2
    rw [World.size_alloc] at hnn
    rw [hW0]
    exact (hnn).below ((Below.refl _ _).alloc (Nat.le_refl _) _)
  have hX2 : FBox W0 (w.heap.size + 2) c p3 c3 q3 d3 := by
    have hnn := FBox.new ((w.alloc (.cells #[.slice p1 a.path.length c1, .string a.id, .string a.title, .string a.link, .int .i64 a.upd, .slice q1 a.ents.length d1] 30)).alloc (.cells #[.slice p2 b.path.length c2, .string b.id, .string b.title, .string b.link, .int .i64 b.upd, .slice q2 b.ents.length d2] 30)) c p3 c3 q3 d3
    rw [World.size_alloc, World.size_alloc] at hnn
    rw [hW0]
    exact hnn
  have hS : FBox W0 w.heap.size a p1 c1 q1 d1 ∧ FBox W0 (w.heap.size + 1) b p2 c2 q2 d2 ∧ FBox W0 (w.heap.size + 2) c p3 c3 q3 d3 ∧ True := ⟨hX0, hX1, hX2, trivial⟩
  have HSB := Lib.hid (fun (u1 u2 : World) (hb : Below u1.heap.size u1 u2) (hss : FBox u1 w.heap.size a p1 c1 q1 d1 ∧ FBox u1 (w.heap.size + 1) b p2 c2 q2 d2 ∧ FBox u1 (w.heap.size + 2) c p3 c3 q3 d3 ∧ True) => (show FBox u2 w.heap.size a p1 c1 q1 d1 ∧ FBox u2 (w.heap.size + 1) b p2 c2 q2 d2 ∧ FBox u2 (w.heap.size + 2) c p3 c3 q3 d3 ∧ True from ⟨hss.1.below hb, hss.2.1.below hb, hss.2.2.1.below hb, trivial⟩))
  clear hX0 hX1 hX2
  have qcA := Lib.hid (fun wx (hbl : Below w.heap.size w wx) => mc_alive wx (TabW_below hT hbl))
  have cL1 := fun wx (hbl : Below w.heap.size w wx) => law_large a _ wx (ha.below hbl) hOa.1
  have cL2 := fun wx (hbl : Below w.heap.size w wx) => law_large b _ wx (hb.below hbl) hOb.1
  have cL3 := fun wx (hbl : Below w.heap.size w wx) => law_large c _ wx (hc.below hbl) hOc.1
  have HS := Lib.hid hS
  have HB := Lib.hid hB0
  rw [hl1] at cL1
  have qcL1 := Lib.hid cL1
  rw [hl2] at cL2
  have qcL2 := Lib.hid cL2
  clear cL1 cL2 cL3 hl1 hl2 hS hB0 hT ha hb hc hOa hOb hOc
  go_enter Tryz.func4, Tryz.ntmps4
  go_upto_region 1 with fail
  simp only [← hW0]
  clear hW0
  obtain ⟨⟨f00, f01, f02, f03, f04, f05⟩, ⟨f10, f11, f12, f13, f14, f15⟩, ⟨f20, f21, f22, f23, f24, f25⟩, -⟩ := id HS.out
  go_wp2_with fail
  refine (qcL1.out _ HB.out).mono ?_
  rintro e1 w1 ⟨rfl, b1⟩
  replace HS := Lib.hid (HSB.out _ _ b1 HS.out)
  replace HB := Lib.hid (HB.out.trans (b1.mono HB.out.size))
  clear b1
  clear f00 f01 f02 f03 f04 f05 f10 f11 f12 f13 f14 f15 f20 f21 f22 f23 f24 f25
  obtain ⟨⟨f00, f01, f02, f03, f04, f05⟩, ⟨f10, f11, f12, f13, f14, f15⟩, ⟨f20, f21, f22, f23, f24, f25⟩, -⟩ := id HS.out
  go_wp2_with fail
  refine (qcL2.out _ HB.out).mono ?_
  rintro e2 w2 ⟨rfl, b2⟩
  replace HS := Lib.hid (HSB.out _ _ b2 HS.out)
  replace HB := Lib.hid (HB.out.trans (b2.mono HB.out.size))
  clear b2
  clear f00 f01 f02 f03 f04 f05 f10 f11 f12 f13 f14 f15 f20 f21 f22 f23 f24 f25
  obtain ⟨⟨f00, f01, f02, f03, f04, f05⟩, ⟨f10, f11, f12, f13, f14, f15⟩, ⟨f20, f21, f22, f23, f24, f25⟩, -⟩ := id HS.out
  go_wp2_with fail
  refine (qcA.out _ HB.out).mono ?_
  rintro e3 w3 ⟨rfl, b3⟩
  replace HS := Lib.hid (HSB.out _ _ b3 HS.out)
  replace HB := Lib.hid (HB.out.trans (b3.mono HB.out.size))
  clear b3
  clear f00 f01 f02 f03 f04 f05 f10 f11 f12 f13 f14 f15 f20 f21 f22 f23 f24 f25
  obtain ⟨⟨f00, f01, f02, f03, f04, f05⟩, ⟨f10, f11, f12, f13, f14, f15⟩, ⟨f20, f21, f22, f23, f24, f25⟩, -⟩ := id HS.out
  go_wp2
  go_ret
  exact ⟨rfl, HB.out⟩
set_option maxRecDepth 100000 in
set_option maxHeartbeats 128000000 in
theorem walk_LaterFeedC (a b c : FeedD) (v1 v2 v3 : Value) (w : World) (ha : FeedIs w a v1) (hb : FeedIs w b v2) (hc : FeedIs w c v3) (hOa : FOpen a) (hOb : FOpen b) (hOc : FOpen c) (hT : TabW w) (hl1 : tlF 0 [a] = false) (hl2 : tlF 0 [b] = false) (hl3 : tlF 0 [c] = true) :
    Calls Tryz.prog 4 #[v1, v2, v3] w fun e' w' => e' = .returned (.bool true) ∧ Below w.heap.size w w' := by
  obtain ⟨p1, c1, q1, d1, rfl, hp1, he1⟩ := ha
  have ha : FeedIs w a (.agg #[.slice p1 a.path.length c1, .string a.id, .string a.title, .string a.link, .int .i64 a.upd, .slice q1 a.ents.length d1]) := ⟨p1, c1, q1, d1, rfl, hp1, he1⟩
  clear hp1 he1
  obtain ⟨p2, c2, q2, d2, rfl, hp2, he2⟩ := hb
  have hb : FeedIs w b (.agg #[.slice p2 b.path.length c2, .string b.id, .string b.title, .string b.link, .int .i64 b.upd, .slice q2 b.ents.length d2]) := ⟨p2, c2, q2, d2, rfl, hp2, he2⟩
  clear hp2 he2
  obtain ⟨p3, c3, q3, d3, rfl, hp3, he3⟩ := hc
  have hc : FeedIs w c (.agg #[.slice p3 c.path.length c3, .string c.id, .string c.title, .string c.link, .int .i64 c.upd, .slice q3 c.ents.length d3]) := ⟨p3, c3, q3, d3, rfl, hp3, he3⟩
  clear hp3 he3
  obtain ⟨W0, hW0⟩ : ∃ W0, W0 = (((w.alloc (.cells #[.slice p1 a.path.length c1, .string a.id, .string a.title, .string a.link, .int .i64 a.upd, .slice q1 a.ents.length d1] 30)).alloc (.cells #[.slice p2 b.path.length c2, .string b.id, .string b.title, .string b.link, .int .i64 b.upd, .slice q2 b.ents.length d2] 30)).alloc (.cells #[.slice p3 c.path.length c3, .string c.id, .string c.title, .string c.link, .int .i64 c.upd, .slice q3 c.ents.length d3] 30)) := ⟨_, rfl⟩
  have hB0 : Below w.heap.size w W0 := by rw [hW0]; exact ((((Below.refl _ _).alloc (by simp) _).alloc (by simp; try omega) _).alloc (by simp; try omega) _)
  have hX0 : FBox W0 w.heap.size a p1 c1 q1 d1 := by
    have hnn := FBox.new w a p1 c1 q1 d1
    rw [hW0]
    exact ((hnn).below ((Below.refl _ _).alloc (Nat.le_refl _) _)).below ((Below.refl _ _).alloc (Nat.le_refl _) _)
  have hX1 : FBox W0 (w.heap.size + 1) b p2 c2 q2 d2 := by
    have hnn := FBox.new (w.alloc (.cells #[.slice p1 a.path.length c1, .string a.id, .string a.title, .string a.link, .int .i64 a.upd, .slice q1 a.ents.length d1] 30)) b p2 c2 q2 d2
    rw [World.size_alloc] at hnn
    rw [hW0]
    exact (hnn).below ((Below.refl _ _).alloc (Nat.le_refl _) _)
  have hX2 : FBox W0 (w.heap.size + 2) c p3 c3 q3 d3 := by
    have hnn := FBox.new ((w.alloc (.cells #[.slice p1 a.path.length c1, .string a.id, .string a.title, .string a.link, .int .i64 a.upd, .slice q1 a.ents.length d1] 30)).alloc (.cells #[.slice p2 b.path.length c2, .string b.id, .string b.title, .string b.link, .int .i64 b.upd, .slice q2 b.ents.length d2] 30)) c p3 c3 q3 d3
    rw [World.size_alloc, World.size_alloc] at hnn
    rw [hW0]
    exact hnn
  have hS : FBox W0 w.heap.size a p1 c1 q1 d1 ∧ FBox W0 (w.heap.size + 1) b p2 c2 q2 d2 ∧ FBox W0 (w.heap.size + 2) c p3 c3 q3 d3 ∧ True := ⟨hX0, hX1, hX2, trivial⟩
  have HSB := Lib.hid (fun (u1 u2 : World) (hb : Below u1.heap.size u1 u2) (hss : FBox u1 w.heap.size a p1 c1 q1 d1 ∧ FBox u1 (w.heap.size + 1) b p2 c2 q2 d2 ∧ FBox u1 (w.heap.size + 2) c p3 c3 q3 d3 ∧ True) => (show FBox u2 w.heap.size a p1 c1 q1 d1 ∧ FBox u2 (w.heap.size + 1) b p2 c2 q2 d2 ∧ FBox u2 (w.heap.size + 2) c p3 c3 q3 d3 ∧ True from ⟨hss.1.below hb, hss.2.1.below hb, hss.2.2.1.below hb, trivial⟩))
  clear hX0 hX1 hX2
  have qcA := Lib.hid (fun wx (hbl : Below w.heap.size w wx) => mc_alive wx (TabW_below hT hbl))
  have cL1 := fun wx (hbl : Below w.heap.size w wx) => law_large a _ wx (ha.below hbl) hOa.1
  have cL2 := fun wx (hbl : Below w.heap.size w wx) => law_large b _ wx (hb.below hbl) hOb.1
  have cL3 := fun wx (hbl : Below w.heap.size w wx) => law_large c _ wx (hc.below hbl) hOc.1
  have HS := Lib.hid hS
  have HB := Lib.hid hB0
  rw [hl1] at cL1
  have qcL1 := Lib.hid cL1
  rw [hl2] at cL2
  have qcL2 := Lib.hid cL2
  rw [hl3] at cL3
  have qcL3 := Lib.hid cL3
  clear cL1 cL2 cL3 hl1 hl2 hl3 hS hB0 hT ha hb hc hOa hOb hOc
  go_enter Tryz.func4, Tryz.ntmps4
  go_upto_region 1 with fail
  simp only [← hW0]
  clear hW0
  obtain ⟨⟨f00, f01, f02, f03, f04, f05⟩, ⟨f10, f11, f12, f13, f14, f15⟩, ⟨f20, f21, f22, f23, f24, f25⟩, -⟩ := id HS.out
  go_wp2_with fail
  refine (qcL1.out _ HB.out).mono ?_
  rintro e1 w1 ⟨rfl, b1⟩
  replace HS := Lib.hid (HSB.out _ _ b1 HS.out)
  replace HB := Lib.hid (HB.out.trans (b1.mono HB.out.size))
  clear b1
  clear f00 f01 f02 f03 f04 f05 f10 f11 f12 f13 f14 f15 f20 f21 f22 f23 f24 f25
  obtain ⟨⟨f00, f01, f02, f03, f04, f05⟩, ⟨f10, f11, f12, f13, f14, f15⟩, ⟨f20, f21, f22, f23, f24, f25⟩, -⟩ := id HS.out
  go_wp2_with fail
  refine (qcL2.out _ HB.out).mono ?_
  rintro e2 w2 ⟨rfl, b2⟩
  replace HS := Lib.hid (HSB.out _ _ b2 HS.out)
  replace HB := Lib.hid (HB.out.trans (b2.mono HB.out.size))
  clear b2
  clear f00 f01 f02 f03 f04 f05 f10 f11 f12 f13 f14 f15 f20 f21 f22 f23 f24 f25
  obtain ⟨⟨f00, f01, f02, f03, f04, f05⟩, ⟨f10, f11, f12, f13, f14, f15⟩, ⟨f20, f21, f22, f23, f24, f25⟩, -⟩ := id HS.out
  go_wp2_with fail
  refine (qcL3.out _ HB.out).mono ?_
  rintro e3 w3 ⟨rfl, b3⟩
  replace HS := Lib.hid (HSB.out _ _ b3 HS.out)
  replace HB := Lib.hid (HB.out.trans (b3.mono HB.out.size))
  clear b3
  clear f00 f01 f02 f03 f04 f05 f10 f11 f12 f13 f14 f15 f20 f21 f22 f23 f24 f25
  obtain ⟨⟨f00, f01, f02, f03, f04, f05⟩, ⟨f10, f11, f12, f13, f14, f15⟩, ⟨f20, f21, f22, f23, f24, f25⟩, -⟩ := id HS.out
  go_wp2_with fail
  refine (qcA.out _ HB.out).mono ?_
  rintro e4 w4 ⟨rfl, b4⟩
  replace HS := Lib.hid (HSB.out _ _ b4 HS.out)
  replace HB := Lib.hid (HB.out.trans (b4.mono HB.out.size))
  clear b4
  clear f00 f01 f02 f03 f04 f05 f10 f11 f12 f13 f14 f15 f20 f21 f22 f23 f24 f25
  obtain ⟨⟨f00, f01, f02, f03, f04, f05⟩, ⟨f10, f11, f12, f13, f14, f15⟩, ⟨f20, f21, f22, f23, f24, f25⟩, -⟩ := id HS.out
  go_wp2
  go_ret
  exact ⟨rfl, HB.out⟩
def mqC2 : Oper := { dst := some 39, op := Go.Op.call { callee := Go.Callee.value (Go.Operand.func 14), args := #[Go.Operand.tmp 37, Go.Operand.tmp 38], argTypes := #[30, 30] }, type := 30, pos := "law.go:128", after := #[{ on := 0, ground := Go.Ground.data }, { on := 1, ground := Go.Ground.data }], guard := none }
def mqC6 : Oper := { dst := some 43, op := Go.Op.call { callee := Go.Callee.value (Go.Operand.func 14), args := #[Go.Operand.tmp 41, Go.Operand.tmp 42], argTypes := #[30, 30] }, type := 30, pos := "law.go:128", after := #[{ on := 4, ground := Go.Ground.data }, { on := 5, ground := Go.Ground.data }, { on := 2, ground := Go.Ground.chain }], guard := none }
def mqC7 : Oper := { dst := some 44, op := Go.Op.call { callee := Go.Callee.value (Go.Operand.func 14), args := #[Go.Operand.tmp 40, Go.Operand.tmp 43], argTypes := #[30, 30] }, type := 30, pos := "law.go:128", after := #[{ on := 3, ground := Go.Ground.data }, { on := 6, ground := Go.Ground.data }, { on := 6, ground := Go.Ground.chain }], guard := none }
def mqC8 : Oper := { dst := some 8, op := Go.Op.alloc 30, type := 0, pos := "law.go:128", after := #[], guard := none }
def mqC9 : Oper := { dst := some 9, op := Go.Op.alloc 30, type := 0, pos := "law.go:128", after := #[], guard := none }
def mqC10 : Oper := { dst := none, op := Go.Op.store 30 (Go.Operand.tmp 8) (Go.Operand.tmp 39), type := 0, pos := "law.go:128", after := #[{ on := 8, ground := Go.Ground.data }, { on := 2, ground := Go.Ground.data }, { on := 7, ground := Go.Ground.chain }, { on := 0, ground := Go.Ground.phase }, { on := 1, ground := Go.Ground.phase }, { on := 2, ground := Go.Ground.phase }, { on := 3, ground := Go.Ground.textOnly Go.Departure.lateStores }, { on := 4, ground := Go.Ground.textOnly Go.Departure.lateStores }, { on := 5, ground := Go.Ground.textOnly Go.Departure.lateStores }, { on := 6, ground := Go.Ground.textOnly Go.Departure.lateStoresUnsure }, { on := 7, ground := Go.Ground.textOnly Go.Departure.lateStoresUnsure }, { on := 8, ground := Go.Ground.phase }, { on := 9, ground := Go.Ground.phase }], guard := none }
def mqC11 : Oper := { dst := none, op := Go.Op.store 30 (Go.Operand.tmp 9) (Go.Operand.tmp 44), type := 0, pos := "law.go:128", after := #[{ on := 9, ground := Go.Ground.data }, { on := 7, ground := Go.Ground.data }, { on := 10, ground := Go.Ground.chain }, { on := 0, ground := Go.Ground.phase }, { on := 1, ground := Go.Ground.phase }, { on := 2, ground := Go.Ground.phase }, { on := 3, ground := Go.Ground.phase }, { on := 4, ground := Go.Ground.phase }, { on := 5, ground := Go.Ground.phase }, { on := 6, ground := Go.Ground.phase }, { on := 7, ground := Go.Ground.phase }, { on := 8, ground := Go.Ground.phase }, { on := 9, ground := Go.Ground.phase }, { on := 10, ground := Go.Ground.phase }], guard := none }
set_option maxRecDepth 100000 in
set_option maxHeartbeats 128000000 in
theorem walk_LaterFeedD (a b c : FeedD) (v1 v2 v3 : Value) (w : World) (ha : FeedIs w a v1) (hb : FeedIs w b v2) (hc : FeedIs w c v3) (hOa : FOpen a) (hOb : FOpen b) (hOc : FOpen c) (hT : TabW w) (hl1 : tlF 0 [a] = false) (hl2 : tlF 0 [b] = false) (hl3 : tlF 0 [c] = false) :
    Calls Tryz.prog 4 #[v1, v2, v3] w fun e' w' => e' = .returned (.bool true) ∧ Below w.heap.size w w' := by
  obtain ⟨p1, c1, q1, d1, rfl, hp1, he1⟩ := ha
  have ha : FeedIs w a (.agg #[.slice p1 a.path.length c1, .string a.id, .string a.title, .string a.link, .int .i64 a.upd, .slice q1 a.ents.length d1]) := ⟨p1, c1, q1, d1, rfl, hp1, he1⟩
  clear hp1 he1
  obtain ⟨p2, c2, q2, d2, rfl, hp2, he2⟩ := hb
  have hb : FeedIs w b (.agg #[.slice p2 b.path.length c2, .string b.id, .string b.title, .string b.link, .int .i64 b.upd, .slice q2 b.ents.length d2]) := ⟨p2, c2, q2, d2, rfl, hp2, he2⟩
  clear hp2 he2
  obtain ⟨p3, c3, q3, d3, rfl, hp3, he3⟩ := hc
  have hc : FeedIs w c (.agg #[.slice p3 c.path.length c3, .string c.id, .string c.title, .string c.link, .int .i64 c.upd, .slice q3 c.ents.length d3]) := ⟨p3, c3, q3, d3, rfl, hp3, he3⟩
  clear hp3 he3
  obtain ⟨W0, hW0⟩ : ∃ W0, W0 = (((w.alloc (.cells #[.slice p1 a.path.length c1, .string a.id, .string a.title, .string a.link, .int .i64 a.upd, .slice q1 a.ents.length d1] 30)).alloc (.cells #[.slice p2 b.path.length c2, .string b.id, .string b.title, .string b.link, .int .i64 b.upd, .slice q2 b.ents.length d2] 30)).alloc (.cells #[.slice p3 c.path.length c3, .string c.id, .string c.title, .string c.link, .int .i64 c.upd, .slice q3 c.ents.length d3] 30)) := ⟨_, rfl⟩
  have hB0 : Below w.heap.size w W0 := by rw [hW0]; exact ((((Below.refl _ _).alloc (by simp) _).alloc (by simp; try omega) _).alloc (by simp; try omega) _)
  have hX0 : FBox W0 w.heap.size a p1 c1 q1 d1 := by
    have hnn := FBox.new w a p1 c1 q1 d1
    rw [hW0]
    exact ((hnn).below ((Below.refl _ _).alloc (Nat.le_refl _) _)).below ((Below.refl _ _).alloc (Nat.le_refl _) _)
  have hX1 : FBox W0 (w.heap.size + 1) b p2 c2 q2 d2 := by
    have hnn := FBox.new (w.alloc (.cells #[.slice p1 a.path.length c1, .string a.id, .string a.title, .string a.link, .int .i64 a.upd, .slice q1 a.ents.length d1] 30)) b p2 c2 q2 d2
    rw [World.size_alloc] at hnn
    rw [hW0]
    exact (hnn).below ((Below.refl _ _).alloc (Nat.le_refl _) _)
  have hX2 : FBox W0 (w.heap.size + 2) c p3 c3 q3 d3 := by
    have hnn := FBox.new ((w.alloc (.cells #[.slice p1 a.path.length c1, .string a.id, .string a.title, .string a.link, .int .i64 a.upd, .slice q1 a.ents.length d1] 30)).alloc (.cells #[.slice p2 b.path.length c2, .string b.id, .string b.title, .string b.link, .int .i64 b.upd, .slice q2 b.ents.length d2] 30)) c p3 c3 q3 d3
    rw [World.size_alloc, World.size_alloc] at hnn
    rw [hW0]
    exact hnn
  have hS : FBox W0 w.heap.size a p1 c1 q1 d1 ∧ FBox W0 (w.heap.size + 1) b p2 c2 q2 d2 ∧ FBox W0 (w.heap.size + 2) c p3 c3 q3 d3 ∧ True := ⟨hX0, hX1, hX2, trivial⟩
  have HSB := Lib.hid (fun (u1 u2 : World) (hb : Below u1.heap.size u1 u2) (hss : FBox u1 w.heap.size a p1 c1 q1 d1 ∧ FBox u1 (w.heap.size + 1) b p2 c2 q2 d2 ∧ FBox u1 (w.heap.size + 2) c p3 c3 q3 d3 ∧ True) => (show FBox u2 w.heap.size a p1 c1 q1 d1 ∧ FBox u2 (w.heap.size + 1) b p2 c2 q2 d2 ∧ FBox u2 (w.heap.size + 2) c p3 c3 q3 d3 ∧ True from ⟨hss.1.below hb, hss.2.1.below hb, hss.2.2.1.below hb, trivial⟩))
  clear hX0 hX1 hX2
  have qcA := Lib.hid (fun wx (hbl : Below w.heap.size w wx) => mc_alive wx (TabW_below hT hbl))
  have cL1 := fun wx (hbl : Below w.heap.size w wx) => law_large a _ wx (ha.below hbl) hOa.1
  have cL2 := fun wx (hbl : Below w.heap.size w wx) => law_large b _ wx (hb.below hbl) hOb.1
  have cL3 := fun wx (hbl : Below w.heap.size w wx) => law_large c _ wx (hc.below hbl) hOc.1
  have HS := Lib.hid hS
  have HB := Lib.hid hB0
  rw [hl1] at cL1
  have qcL1 := Lib.hid cL1
  rw [hl2] at cL2
  have qcL2 := Lib.hid cL2
  rw [hl3] at cL3
  have qcL3 := Lib.hid cL3
  have hsa : FSmU a := ⟨(tlF_small [a] 0 hl1 (by omega)).2 a (List.mem_singleton.2 rfl), hOa.2⟩
  have hsb : FSmU b := ⟨(tlF_small [b] 0 hl2 (by omega)).2 b (List.mem_singleton.2 rfl), hOb.2⟩
  have hsc : FSmU c := ⟨(tlF_small [c] 0 hl3 (by omega)).2 c (List.mem_singleton.2 rfl), hOc.2⟩
  have hcomm := fun h => ltF_comm (a := a) (b := b) hsa hsb h
  obtain ⟨L, hL⟩ : ∃ z, ltF a b = z := ⟨_, rfl⟩
  obtain ⟨BC, hBC⟩ : ∃ z, ltF b c = z := ⟨_, rfl⟩
  obtain ⟨Y, hY⟩ : ∃ z, ltF L c = z := ⟨_, rfl⟩
  have hZ : ltF a BC = Y := by rw [← hY, ← hL, ← hBC, ltF_assoc]
  have hLe : L.ents = [] := by rw [← hL]; rfl
  have hBe : BC.ents = [] := by rw [← hBC]; rfl
  have hYe : Y.ents = [] := by rw [← hY]; rfl
  have hLL : ltF L L = L := ltF_self hLe
  have hsL : FSmU L := by rw [← hL]; exact ltF_smallU hsa hsb
  have hsBC : FSmU BC := by rw [← hBC]; exact ltF_smallU hsb hsc
  have hsY : FSmU Y := by rw [← hY]; exact ltF_smallU hsL hsc
  have k1 := fun wx (hbl : Below w.heap.size w wx) => mq_later hsa hsb _ _ wx (ha.below hbl) (hb.below hbl) (TabW_below hT hbl)
  have k2 := fun wx (hbl : Below w.heap.size w wx) => mqr_later hsa hsb _ _ wx (ha.below hbl) (hb.below hbl)
  have k3 := fun v wx (hbl : Below w.heap.size w wx) (hv : FeedIs wx L v) => mq_later hsL hsc v _ wx hv (hc.below hbl) (TabW_below hT hbl)
  have k4 := fun wx (hbl : Below w.heap.size w wx) => mq_later hsb hsc _ _ wx (hb.below hbl) (hc.below hbl) (TabW_below hT hbl)
  have k5 := fun v wx (hbl : Below w.heap.size w wx) (hv : FeedIs wx BC v) => mq_later hsa hsBC _ v wx (ha.below hbl) hv (TabW_below hT hbl)
  have k6 := fun v wx (hbl : Below w.heap.size w wx) (hv : FeedIs wx L v) => mq_later hsL hsL v v wx hv hv (TabW_below hT hbl)
  have k7 := fun wx (hbl : Below w.heap.size w wx) => mq_later hsb hsa _ _ wx (hb.below hbl) (ha.below hbl) (TabW_below hT hbl)
  have k8 := fun wx (hbl : Below w.heap.size w wx) => mref_CheckFeed a _ wx (ha.below hbl) (fsz_smallQ hsa.1)
  have k9 := fun wx (hbl : Below w.heap.size w wx) => mref_CheckFeed b _ wx (hb.below hbl) (fsz_smallQ hsb.1)
  have m1 := fun v u wx (hv : FeedIs wx L v) (hu : FeedIs wx L u) => mq_same hsL v u wx hv hu
  have m2 := fun v u wx (hv : FeedIs wx Y v) (hu : FeedIs wx Y u) => mq_same hsY v u wx hv hu
  rw [hL] at k1 k2 hcomm
  rw [hY] at k3
  rw [hBC] at k4
  rw [hZ] at k5
  rw [hLL] at k6
  have hLn := hsL.1.plen
  have hLz : (L.path.length : Int) ≤ 5000 := by omega
  have qk1 := Lib.hid k1
  have qk2 := Lib.hid k2
  have qk3 := Lib.hid k3
  have qk4 := Lib.hid k4
  have qk5 := Lib.hid k5
  have qk6 := Lib.hid k6
  have qk7 := Lib.hid k7
  have qk8 := Lib.hid k8
  have qk9 := Lib.hid k9
  have qm1 := Lib.hid m1
  have qm2 := Lib.hid m2
  have qco := Lib.hid hcomm
  have qLe := Lib.hid hLe
  have qBe := Lib.hid hBe
  have qYe := Lib.hid hYe
  clear k1 k2 k3 k4 k5 k6 k7 k8 k9 m1 m2 hcomm hLe hBe hYe hLn hsL hsBC hsY hsa hsb hsc hL hBC hY hZ hLL hl1 hl2 hl3 cL1 cL2 cL3 hS hB0 hT ha hb hc hOa hOb hOc
  go_enter Tryz.func4, Tryz.ntmps4
  go_upto_region 1 with fail
  simp only [← hW0]
  clear hW0
  obtain ⟨⟨f00, f01, f02, f03, f04, f05⟩, ⟨f10, f11, f12, f13, f14, f15⟩, ⟨f20, f21, f22, f23, f24, f25⟩, -⟩ := id HS.out
  go_wp2_with fail
  refine (qcL1.out _ HB.out).mono ?_
  rintro e1 w1 ⟨rfl, b1⟩
  replace HS := Lib.hid (HSB.out _ _ b1 HS.out)
  replace HB := Lib.hid (HB.out.trans (b1.mono HB.out.size))
  clear b1
  clear f00 f01 f02 f03 f04 f05 f10 f11 f12 f13 f14 f15 f20 f21 f22 f23 f24 f25
  obtain ⟨⟨f00, f01, f02, f03, f04, f05⟩, ⟨f10, f11, f12, f13, f14, f15⟩, ⟨f20, f21, f22, f23, f24, f25⟩, -⟩ := id HS.out
  go_wp2_with fail
  refine (qcL2.out _ HB.out).mono ?_
  rintro e2 w2 ⟨rfl, b2⟩
  replace HS := Lib.hid (HSB.out _ _ b2 HS.out)
  replace HB := Lib.hid (HB.out.trans (b2.mono HB.out.size))
  clear b2
  clear f00 f01 f02 f03 f04 f05 f10 f11 f12 f13 f14 f15 f20 f21 f22 f23 f24 f25
  obtain ⟨⟨f00, f01, f02, f03, f04, f05⟩, ⟨f10, f11, f12, f13, f14, f15⟩, ⟨f20, f21, f22, f23, f24, f25⟩, -⟩ := id HS.out
  go_wp2_with fail
  refine (qcL3.out _ HB.out).mono ?_
  rintro e3 w3 ⟨rfl, b3⟩
  replace HS := Lib.hid (HSB.out _ _ b3 HS.out)
  replace HB := Lib.hid (HB.out.trans (b3.mono HB.out.size))
  clear b3
  clear f00 f01 f02 f03 f04 f05 f10 f11 f12 f13 f14 f15 f20 f21 f22 f23 f24 f25
  clear qcL1 qcL2 qcL3
  obtain ⟨⟨f00, f01, f02, f03, f04, f05⟩, ⟨f10, f11, f12, f13, f14, f15⟩, ⟨f20, f21, f22, f23, f24, f25⟩, -⟩ := id HS.out
  go_wp2_with fail
  refine (qk1.out _ HB.out).mono ?_
  rintro e4 w4 ⟨px, cx, rfl, ho4, b4⟩
  obtain ⟨W5, hW5⟩ : ∃ W5, W5 = w4.alloc (.cells #[.slice px L.path.length cx, .string L.id, .string L.title, .string L.link, .int .i64 L.upd, .slice none 0 0] 30) := ⟨_, rfl⟩
  have b45 : Below w4.heap.size w4 W5 := by rw [hW5]; exact (Below.refl _ _).alloc (Nat.le_refl _) _
  have hMx : MBlk W5 w4.heap.size #[.slice px L.path.length cx, .string L.id, .string L.title, .string L.link, .int .i64 L.upd, .slice none 0 0] 30 := by rw [hW5]; exact heap_alloc_new w4 _
  have b35 := b4.trans (b45.mono b4.size)
  have ho5 := jrow_same ho4 (fun g hg => b45.block g (ho4.lt g hg).2)
  have hlt4 := fun g hg => (ho4.lt g hg).2
  have HS5 := Lib.hid (HSB.out _ _ b35 HS.out)
  have HS3 := Lib.hid HS.out
  have HB3 := Lib.hid HB.out
  have HB5 := Lib.hid (HB.out.trans (b35.mono HB.out.size))
  have H35 := Lib.hid b35
  have HO5 := Lib.hid ho5
  have HLT := Lib.hid hlt4
  have HMX := Lib.hid hMx
  have HXF := Lib.hid (later_is ho5 qLe.out)
  clear f00 f01 f02 f03 f04 f05 f10 f11 f12 f13 f14 f15 f20 f21 f22 f23 f24 f25 HS HB ho4 b4 b45 b35 hMx ho5 hlt4
  go_upto_region 4 with fail
  simp only [← hW5]
  clear hW5
  generalize w4.heap.size = nx at *
  have HSI := Lib.hid (fun (u1 u2 : World) (hbl : Below u1.heap.size u1 u2) (hss : (u1.cell? ⟨nx, 0, none⟩ = some (.slice px L.path.length cx) ∧ u1.cell? ⟨nx, 1, none⟩ = some (.string L.id) ∧ u1.cell? ⟨nx, 2, none⟩ = some (.string L.title) ∧ u1.cell? ⟨nx, 3, none⟩ = some (.string L.link) ∧ u1.cell? ⟨nx, 4, none⟩ = some (.int .i64 L.upd) ∧ u1.cell? ⟨nx, 5, none⟩ = some (.slice none 0 0)) ∧ FBox u1 w.heap.size a p1 c1 q1 d1 ∧ FBox u1 (w.heap.size + 1) b p2 c2 q2 d2 ∧ FBox u1 (w.heap.size + 2) c p3 c3 q3 d3 ∧ True) => (show (u2.cell? ⟨nx, 0, none⟩ = some (.slice px L.path.length cx) ∧ u2.cell? ⟨nx, 1, none⟩ = some (.string L.id) ∧ u2.cell? ⟨nx, 2, none⟩ = some (.string L.title) ∧ u2.cell? ⟨nx, 3, none⟩ = some (.string L.link) ∧ u2.cell? ⟨nx, 4, none⟩ = some (.int .i64 L.upd) ∧ u2.cell? ⟨nx, 5, none⟩ = some (.slice none 0 0)) ∧ FBox u2 w.heap.size a p1 c1 q1 d1 ∧ FBox u2 (w.heap.size + 1) b p2 c2 q2 d2 ∧ FBox u2 (w.heap.size + 2) c p3 c3 q3 d3 ∧ True from ⟨⟨mcell hbl hss.1.1, mcell hbl hss.1.2.1, mcell hbl hss.1.2.2.1, mcell hbl hss.1.2.2.2.1, mcell hbl hss.1.2.2.2.2.1, mcell hbl hss.1.2.2.2.2.2⟩, HSB.out u1 u2 hbl hss.2⟩))
  have SD : (W5.drew.cell? ⟨nx, 0, none⟩ = some (.slice px L.path.length cx) ∧ W5.drew.cell? ⟨nx, 1, none⟩ = some (.string L.id) ∧ W5.drew.cell? ⟨nx, 2, none⟩ = some (.string L.title) ∧ W5.drew.cell? ⟨nx, 3, none⟩ = some (.string L.link) ∧ W5.drew.cell? ⟨nx, 4, none⟩ = some (.int .i64 L.upd) ∧ W5.drew.cell? ⟨nx, 5, none⟩ = some (.slice none 0 0)) ∧ FBox W5.drew w.heap.size a p1 c1 q1 d1 ∧ FBox W5.drew (w.heap.size + 1) b p2 c2 q2 d2 ∧ FBox W5.drew (w.heap.size + 2) c p3 c3 q3 d3 ∧ True := ⟨⟨HMX.out.cell 0, HMX.out.cell 1, HMX.out.cell 2, HMX.out.cell 3, HMX.out.cell 4, HMX.out.cell 5⟩, HS5.out⟩
  have HD := Lib.hid (show Below W5.heap.size W5 W5.drew from (Below.refl _ _).drew)
  have up := fun wx (hbl : Below W5.heap.size W5 wx) => HB5.out.trans (hbl.mono HB5.out.size)
  have qup := Lib.hid up
  clear up HS5
  go_wp2
  refine wp_region_late (S := fun w' => (w'.cell? ⟨nx, 0, none⟩ = some (.slice px L.path.length cx) ∧ w'.cell? ⟨nx, 1, none⟩ = some (.string L.id) ∧ w'.cell? ⟨nx, 2, none⟩ = some (.string L.title) ∧ w'.cell? ⟨nx, 3, none⟩ = some (.string L.link) ∧ w'.cell? ⟨nx, 4, none⟩ = some (.int .i64 L.upd) ∧ w'.cell? ⟨nx, 5, none⟩ = some (.slice none 0 0)) ∧ FBox w' w.heap.size a p1 c1 q1 d1 ∧ FBox w' (w.heap.size + 1) b p2 c2 q2 d2 ∧ FBox w' (w.heap.size + 2) c p3 c3 q3 d3 ∧ True) (D := []) (by kernel_rfl) ?_
  refine anyL_take (i := 0) (oi := { dst := some 25, op := Go.Op.load 30 (Go.Operand.tmp 7), type := 30, pos := "law.go:125", after := #[], guard := none }) (v := ?_) rfl (by decide) (by kernel_rfl) (by kernel_rfl) (by kernel_rfl) (by kernel_rfl) (fun _ _ _ h => h) (Or.inl ⟨by rfl, ?_⟩) SD ?_
  rotate_left
  · intro wz hSz
    obtain ⟨⟨x0, x1, x2, x3, x4, x5⟩, ⟨z0, z1, z2, z3, z4, z5⟩, ⟨z6, z7, z8, z9, z10, z11⟩, ⟨z12, z13, z14, z15, z16, z17⟩, -⟩ := hSz
    go_simp
    (try with_reducible rfl)
  try simp only [Act.put, List.setIfInBounds_toArray, List.set_cons_zero, List.set_cons_succ]
  refine anyL_take (i := 1) (oi := { dst := some 26, op := Go.Op.load 30 (Go.Operand.tmp 3), type := 30, pos := "law.go:125", after := #[], guard := none }) (v := ?_) rfl (by decide) (by kernel_rfl) (by kernel_rfl) (by kernel_rfl) (by kernel_rfl) (fun _ _ _ h => h) (Or.inl ⟨by rfl, ?_⟩) SD ?_
  rotate_left
  · intro wz hSz
    obtain ⟨⟨x0, x1, x2, x3, x4, x5⟩, ⟨z0, z1, z2, z3, z4, z5⟩, ⟨z6, z7, z8, z9, z10, z11⟩, ⟨z12, z13, z14, z15, z16, z17⟩, -⟩ := hSz
    go_simp
    (try with_reducible rfl)
  try simp only [Act.put, List.setIfInBounds_toArray, List.set_cons_zero, List.set_cons_succ]
  refine anyL_take (i := 2) (oi := { dst := some 27, op := Go.Op.load 30 (Go.Operand.tmp 4), type := 30, pos := "law.go:125", after := #[], guard := none }) (v := ?_) rfl (by decide) (by kernel_rfl) (by kernel_rfl) (by kernel_rfl) (by kernel_rfl) (fun _ _ _ h => h) (Or.inl ⟨by rfl, ?_⟩) SD ?_
  rotate_left
  · intro wz hSz
    obtain ⟨⟨x0, x1, x2, x3, x4, x5⟩, ⟨z0, z1, z2, z3, z4, z5⟩, ⟨z6, z7, z8, z9, z10, z11⟩, ⟨z12, z13, z14, z15, z16, z17⟩, -⟩ := hSz
    go_simp
    (try with_reducible rfl)
  try simp only [Act.put, List.setIfInBounds_toArray, List.set_cons_zero, List.set_cons_succ]
  refine anyL_ready (rs := [3]) (by kernel_rfl) (by simp) ?_
  refine AllL.cons (o := { dst := some 28, op := Go.Op.call { callee := Go.Callee.value (Go.Operand.func 16), args := #[Go.Operand.tmp 26, Go.Operand.tmp 27], argTypes := #[30, 30] }, type := 30, pos := "law.go:125", after := #[{ on := 1, ground := Go.Ground.data }, { on := 2, ground := Go.Ground.data }], guard := none }) rfl (fun K' hK => ?_) AllL.nil
  rw [if_pos (by rfl)]
  go_simp
  go_at_call 16
  refine (qk2.out _ (qup.out _ HD.out)).mono ?_
  rintro e11 w11 ⟨⟨v11, rfl, hv11⟩, b11⟩
  have S11 := HSI.out _ _ b11 SD
  have HB11 := Lib.hid (HD.out.trans (b11.mono HD.out.size))
  refine hK _ _ S11 ?_
  clear hK K' b11 SD
  try simp only [Act.put, List.setIfInBounds_toArray, List.set_cons_zero, List.set_cons_succ]
  refine anyL_ready (rs := [4]) (by kernel_rfl) (by simp) ?_
  refine AllL.cons (o := { dst := some 29, op := Go.Op.call { callee := Go.Callee.value (Go.Operand.func 15), args := #[Go.Operand.tmp 25, Go.Operand.tmp 28], argTypes := #[30, 30] }, type := 4, pos := "law.go:125", after := #[{ on := 0, ground := Go.Ground.data }, { on := 3, ground := Go.Ground.data }, { on := 3, ground := Go.Ground.chain }], guard := none }) rfl (fun K' hK => ?_) AllL.nil
  rw [if_pos (by rfl)]
  go_simp
  go_at_call 15
  refine (qm1.out _ _ _ (HXF.out.below HB11.out) hv11).mono ?_
  rintro e12 w12 ⟨rfl, b12⟩
  have S12 := HSI.out _ _ b12 S11
  have HB12 := Lib.hid (HB11.out.trans (b12.mono HB11.out.size))
  refine hK _ _ S12 ?_
  clear hK K' b12 S11
  try simp only [Act.put, List.setIfInBounds_toArray, List.set_cons_zero, List.set_cons_succ]
  refine anyL_take (i := 5) (oi := { dst := some 30, op := Go.Op.unOp Go.UnOp.not 4 (Go.Operand.tmp 29), type := 4, pos := "law.go:125", after := #[{ on := 4, ground := Go.Ground.data }], guard := none }) (v := ?_) rfl (by decide) (by kernel_rfl) (by kernel_rfl) (by kernel_rfl) (by kernel_rfl) (fun _ _ _ h => h) (Or.inl ⟨by rfl, ?_⟩) S12 ?_
  rotate_left
  · intro wz hSz
    skip
    go_simp
    (try with_reducible rfl)
  try simp only [Act.put, List.setIfInBounds_toArray, List.set_cons_zero, List.set_cons_succ]
  refine anyL_take (i := 6) (oi := { dst := some 31, op := Go.Op.move (Go.Operand.tmp 30), type := 4, pos := "law.go:125", after := #[{ on := 5, ground := Go.Ground.data }, { on := 4, ground := Go.Ground.chain }], guard := none }) (v := ?_) rfl (by decide) (by kernel_rfl) (by kernel_rfl) (by kernel_rfl) (by kernel_rfl) (fun _ _ _ h => h) (Or.inl ⟨by rfl, ?_⟩) S12 ?_
  rotate_left
  · intro wz hSz
    skip
    go_simp
    (try with_reducible rfl)
  try simp only [Act.put, List.setIfInBounds_toArray, List.set_cons_zero, List.set_cons_succ]
  refine anyL_take (i := 7) (oi := { dst := some 32, op := Go.Op.fieldAddr 30 (Go.Operand.tmp 7) 5, type := 0, pos := "law.go:125", after := #[{ on := 6, ground := Go.Ground.guard }], guard := some (6, false) }) (v := ?_) rfl (by decide) (by kernel_rfl) (by kernel_rfl) (by kernel_rfl) (by kernel_rfl) (fun _ _ _ h => h) (Or.inl ⟨by rfl, ?_⟩) S12 ?_
  rotate_left
  · intro wz hSz
    skip
    go_simp
    (try with_reducible rfl)
  try simp only [Act.put, List.setIfInBounds_toArray, List.set_cons_zero, List.set_cons_succ]
  refine anyL_take (i := 8) (oi := { dst := some 33, op := Go.Op.load 28 (Go.Operand.tmp 32), type := 28, pos := "law.go:125", after := #[{ on := 7, ground := Go.Ground.data }, { on := 6, ground := Go.Ground.guard }], guard := some (6, false) }) (v := ?_) rfl (by decide) (by kernel_rfl) (by kernel_rfl) (by kernel_rfl) (by kernel_rfl) (fun _ _ _ h => h) (Or.inl ⟨by rfl, ?_⟩) S12 ?_
  rotate_left
  · intro wz hSz
    obtain ⟨⟨x0, x1, x2, x3, x4, x5⟩, ⟨z0, z1, z2, z3, z4, z5⟩, ⟨z6, z7, z8, z9, z10, z11⟩, ⟨z12, z13, z14, z15, z16, z17⟩, -⟩ := hSz
    go_simp
    (try with_reducible rfl)
  try simp only [Act.put, List.setIfInBounds_toArray, List.set_cons_zero, List.set_cons_succ]
  refine anyL_take (i := 9) (oi := { dst := some 34, op := Go.Op.call { callee := Go.Callee.builtin Go.Builtin.len, args := #[Go.Operand.tmp 33], argTypes := #[28] }, type := 3, pos := "law.go:125", after := #[{ on := 8, ground := Go.Ground.data }, { on := 6, ground := Go.Ground.guard }], guard := some (6, false) }) (v := ?_) rfl (by decide) (by kernel_rfl) (by kernel_rfl) (by kernel_rfl) (by kernel_rfl) (fun _ _ _ h => h) (Or.inl ⟨by rfl, ?_⟩) S12 ?_
  rotate_left
  · intro wz hSz
    skip
    go_simp
    (try with_reducible rfl)
  try simp only [Act.put, List.setIfInBounds_toArray, List.set_cons_zero, List.set_cons_succ]
  refine anyL_take (i := 10) (oi := { dst := some 35, op := Go.Op.binOp Go.BinOp.gtr 3 (Go.Operand.tmp 34) (Go.Operand.const (Go.Value.int Go.IntKind.i64 0)) 3, type := 4, pos := "law.go:125", after := #[{ on := 9, ground := Go.Ground.data }, { on := 6, ground := Go.Ground.guard }], guard := some (6, false) }) (v := ?_) rfl (by decide) (by kernel_rfl) (by kernel_rfl) (by kernel_rfl) (by kernel_rfl) (fun _ _ _ h => h) (Or.inl ⟨by rfl, ?_⟩) S12 ?_
  rotate_left
  · intro wz hSz
    skip
    go_simp
    (try with_reducible rfl)
  try simp only [Act.put, List.setIfInBounds_toArray, List.set_cons_zero, List.set_cons_succ]
  refine anyL_take (i := 11) (oi := { dst := some 36, op := Go.Op.pick (Go.Operand.tmp 31) (Go.Operand.const (Go.Value.bool true)) (Go.Operand.tmp 35), type := 4, pos := "law.go:125", after := #[{ on := 6, ground := Go.Ground.data }, { on := 10, ground := Go.Ground.data }], guard := none }) (v := ?_) rfl (by decide) (by kernel_rfl) (by kernel_rfl) (by kernel_rfl) (by kernel_rfl) (fun _ _ _ h => h) (Or.inl ⟨by rfl, ?_⟩) S12 ?_
  rotate_left
  · intro wz hSz
    skip
    go_simp
    (try with_reducible rfl)
  try simp only [Act.put, List.setIfInBounds_toArray, List.set_cons_zero, List.set_cons_succ]
  refine anyL_done (by kernel_rfl) ?_ _
  have SE := S12
  have HE := HB12
  clear S12 HB12
  obtain ⟨⟨x0, x1, x2, x3, x4, x5⟩, ⟨f00, f01, f02, f03, f04, f05⟩, ⟨f10, f11, f12, f13, f14, f15⟩, ⟨f20, f21, f22, f23, f24, f25⟩, -⟩ := SE
  have SE : (w12.cell? ⟨nx, 0, none⟩ = some (.slice px L.path.length cx) ∧ w12.cell? ⟨nx, 1, none⟩ = some (.string L.id) ∧ w12.cell? ⟨nx, 2, none⟩ = some (.string L.title) ∧ w12.cell? ⟨nx, 3, none⟩ = some (.string L.link) ∧ w12.cell? ⟨nx, 4, none⟩ = some (.int .i64 L.upd) ∧ w12.cell? ⟨nx, 5, none⟩ = some (.slice none 0 0)) ∧ FBox w12 w.heap.size a p1 c1 q1 d1 ∧ FBox w12 (w.heap.size + 1) b p2 c2 q2 d2 ∧ FBox w12 (w.heap.size + 2) c p3 c3 q3 d3 ∧ True := ⟨⟨x0, x1, x2, x3, x4, x5⟩, ⟨⟨f00, f01, f02, f03, f04, f05⟩, ⟨f10, f11, f12, f13, f14, f15⟩, ⟨f20, f21, f22, f23, f24, f25⟩, trivial⟩⟩
  go_upto_region 6 with fail
  go_cut [8, 9] (fun u v wx => ∃ (ny nz : Nat) (py : Option Addr) (cy : Nat) (pz : Option Addr) (cz : Nat), u = .pointer (some ⟨ny, 0, none⟩) ∧ v = .pointer (some ⟨nz, 0, none⟩) ∧ MBlk wx ny #[.slice py Y.path.length cy, .string Y.id, .string Y.title, .string Y.link, .int .i64 Y.upd, .slice none 0 0] 30 ∧ MBlk wx nz #[.slice pz Y.path.length cz, .string Y.id, .string Y.title, .string Y.link, .int .i64 Y.upd, .slice none 0 0] 30 ∧ NamAt wx py Y.path ∧ NamAt wx pz Y.path ∧ ((wx.cell? ⟨nx, 0, none⟩ = some (.slice px L.path.length cx) ∧ wx.cell? ⟨nx, 1, none⟩ = some (.string L.id) ∧ wx.cell? ⟨nx, 2, none⟩ = some (.string L.title) ∧ wx.cell? ⟨nx, 3, none⟩ = some (.string L.link) ∧ wx.cell? ⟨nx, 4, none⟩ = some (.int .i64 L.upd) ∧ wx.cell? ⟨nx, 5, none⟩ = some (.slice none 0 0)) ∧ FBox wx w.heap.size a p1 c1 q1 d1 ∧ FBox wx (w.heap.size + 1) b p2 c2 q2 d2 ∧ FBox wx (w.heap.size + 2) c p3 c3 q3 d3 ∧ True) ∧ Below W5.heap.size W5 wx)
  case first =>
    clear qk1 qk2 qk6 qk7 qk8 qk9 qm1 qm2 qco qcA HS3 HB3 H35 HO5 HLT HMX x0 x1 x2 x3 x4 x5 f00 f01 f02 f03 f04 f05 f10 f11 f12 f13 f14 f15 f20 f21 f22 f23 f24 f25
    go_wp2
    have SD : (w12.drew.cell? ⟨nx, 0, none⟩ = some (.slice px L.path.length cx) ∧ w12.drew.cell? ⟨nx, 1, none⟩ = some (.string L.id) ∧ w12.drew.cell? ⟨nx, 2, none⟩ = some (.string L.title) ∧ w12.drew.cell? ⟨nx, 3, none⟩ = some (.string L.link) ∧ w12.drew.cell? ⟨nx, 4, none⟩ = some (.int .i64 L.upd) ∧ w12.drew.cell? ⟨nx, 5, none⟩ = some (.slice none 0 0)) ∧ FBox w12.drew w.heap.size a p1 c1 q1 d1 ∧ FBox w12.drew (w.heap.size + 1) b p2 c2 q2 d2 ∧ FBox w12.drew (w.heap.size + 2) c p3 c3 q3 d3 ∧ True := SE
    have HD := Lib.hid (show Below W5.heap.size W5 w12.drew from HE.out.drew)
    clear SE HE
    refine wp_region_late (S := fun w' => (w'.cell? ⟨nx, 0, none⟩ = some (.slice px L.path.length cx) ∧ w'.cell? ⟨nx, 1, none⟩ = some (.string L.id) ∧ w'.cell? ⟨nx, 2, none⟩ = some (.string L.title) ∧ w'.cell? ⟨nx, 3, none⟩ = some (.string L.link) ∧ w'.cell? ⟨nx, 4, none⟩ = some (.int .i64 L.upd) ∧ w'.cell? ⟨nx, 5, none⟩ = some (.slice none 0 0)) ∧ FBox w' w.heap.size a p1 c1 q1 d1 ∧ FBox w' (w.heap.size + 1) b p2 c2 q2 d2 ∧ FBox w' (w.heap.size + 2) c p3 c3 q3 d3 ∧ True) (D := []) (by kernel_rfl) ?_
    generalize w12.drew = Wd at *
    have D0 := Below.refl Wd.heap.size Wd
    have SD0 := SD
    refine anyL_take (i := 0) (oi := { dst := some 37, op := Go.Op.load 30 (Go.Operand.tmp 7), type := 30, pos := "law.go:128", after := #[], guard := none }) (v := ?_) rfl (by decide) (by kernel_rfl) (by kernel_rfl) (by kernel_rfl) (by kernel_rfl) (fun _ _ _ h => h) (Or.inl ⟨by rfl, ?_⟩) SD ?_
    rotate_left
    · intro wz hSz
      obtain ⟨⟨x0, x1, x2, x3, x4, x5⟩, ⟨z0, z1, z2, z3, z4, z5⟩, ⟨z6, z7, z8, z9, z10, z11⟩, ⟨z12, z13, z14, z15, z16, z17⟩, -⟩ := hSz
      go_simp
      (try with_reducible rfl)
    try simp only [Act.put, List.setIfInBounds_toArray, List.set_cons_zero, List.set_cons_succ]
    refine anyL_take (i := 1) (oi := { dst := some 38, op := Go.Op.load 30 (Go.Operand.tmp 5), type := 30, pos := "law.go:128", after := #[], guard := none }) (v := ?_) rfl (by decide) (by kernel_rfl) (by kernel_rfl) (by kernel_rfl) (by kernel_rfl) (fun _ _ _ h => h) (Or.inl ⟨by rfl, ?_⟩) SD ?_
    rotate_left
    · intro wz hSz
      obtain ⟨⟨x0, x1, x2, x3, x4, x5⟩, ⟨z0, z1, z2, z3, z4, z5⟩, ⟨z6, z7, z8, z9, z10, z11⟩, ⟨z12, z13, z14, z15, z16, z17⟩, -⟩ := hSz
      go_simp
      (try with_reducible rfl)
    try simp only [Act.put, List.setIfInBounds_toArray, List.set_cons_zero, List.set_cons_succ]
    refine anyL_take (i := 3) (oi := { dst := some 40, op := Go.Op.load 30 (Go.Operand.tmp 3), type := 30, pos := "law.go:128", after := #[], guard := none }) (v := ?_) rfl (by decide) (by kernel_rfl) (by kernel_rfl) (by kernel_rfl) (by kernel_rfl) (fun _ _ _ h => h) (Or.inl ⟨by rfl, ?_⟩) SD ?_
    rotate_left
    · intro wz hSz
      obtain ⟨⟨x0, x1, x2, x3, x4, x5⟩, ⟨z0, z1, z2, z3, z4, z5⟩, ⟨z6, z7, z8, z9, z10, z11⟩, ⟨z12, z13, z14, z15, z16, z17⟩, -⟩ := hSz
      go_simp
      (try with_reducible rfl)
    try simp only [Act.put, List.setIfInBounds_toArray, List.set_cons_zero, List.set_cons_succ]
    refine anyL_take (i := 4) (oi := { dst := some 41, op := Go.Op.load 30 (Go.Operand.tmp 4), type := 30, pos := "law.go:128", after := #[], guard := none }) (v := ?_) rfl (by decide) (by kernel_rfl) (by kernel_rfl) (by kernel_rfl) (by kernel_rfl) (fun _ _ _ h => h) (Or.inl ⟨by rfl, ?_⟩) SD ?_
    rotate_left
    · intro wz hSz
      obtain ⟨⟨x0, x1, x2, x3, x4, x5⟩, ⟨z0, z1, z2, z3, z4, z5⟩, ⟨z6, z7, z8, z9, z10, z11⟩, ⟨z12, z13, z14, z15, z16, z17⟩, -⟩ := hSz
      go_simp
      (try with_reducible rfl)
    try simp only [Act.put, List.setIfInBounds_toArray, List.set_cons_zero, List.set_cons_succ]
    refine anyL_take (i := 5) (oi := { dst := some 42, op := Go.Op.load 30 (Go.Operand.tmp 5), type := 30, pos := "law.go:128", after := #[], guard := none }) (v := ?_) rfl (by decide) (by kernel_rfl) (by kernel_rfl) (by kernel_rfl) (by kernel_rfl) (fun _ _ _ h => h) (Or.inl ⟨by rfl, ?_⟩) SD ?_
    rotate_left
    · intro wz hSz
      obtain ⟨⟨x0, x1, x2, x3, x4, x5⟩, ⟨z0, z1, z2, z3, z4, z5⟩, ⟨z6, z7, z8, z9, z10, z11⟩, ⟨z12, z13, z14, z15, z16, z17⟩, -⟩ := hSz
      go_simp
      (try with_reducible rfl)
    try simp only [Act.put, List.setIfInBounds_toArray, List.set_cons_zero, List.set_cons_succ]
    clear SD
    refine anyL_ready (rs := [2, 8, 9]) (by kernel_rfl) (by simp) ?_
    refine AllL.cons (o := mqC2) rfl (fun K' hK => ?_) (AllL.cons (o := mqC8) rfl (fun K' hK => ?_) (AllL.cons (o := mqC9) rfl (fun K' hK => ?_) AllL.nil))
    · rw [if_pos (by rfl)]
      unfold mqC2
      go_simp
      go_at_call 14
      refine (qk3.out _ _ (qup.out _ (HD.out.trans (D0.mono HD.out.size))) (HXF.out.below (HD.out.trans (D0.mono HD.out.size)))).mono ?_
      rintro e1 V1 ⟨py, cy, rfl, ho, bb⟩
      have N1_py := mq_nam ho
      have hrow := mq_row ho
      have U1_py : ∀ ad, py = some ad → 0 < Y.path.length → ad.block < V1.heap.size := fun ad h1 h2 => (hrow ad h1 h2).2
      have D1 : Below Wd.heap.size Wd V1 := D0.trans (bb.mono D0.size)
      have SD1 := HSI.out _ _ D1 SD0
      refine hK _ _ SD1 ?_
      clear hK K' bb ho hrow D0  
      try simp only [Act.put, List.setIfInBounds_toArray, List.set_cons_zero, List.set_cons_succ]
      refine anyL_ready (rs := [6, 8, 9]) (by kernel_rfl) (by simp) ?_
      refine AllL.cons (o := mqC6) rfl (fun K' hK => ?_) (AllL.cons (o := mqC8) rfl (fun K' hK => ?_) (AllL.cons (o := mqC9) rfl (fun K' hK => ?_) AllL.nil))
      · rw [if_pos (by rfl)]
        unfold mqC6
        go_simp
        go_at_call 14
        refine (qk4.out _ (qup.out _ (HD.out.trans (D1.mono HD.out.size)))).mono ?_
        rintro e2 V2 ⟨pb, cb, rfl, ho, bb⟩
        have N2_py := N1_py.below bb
        have U2_py : ∀ ad, py = some ad → 0 < Y.path.length → ad.block < V2.heap.size := fun ad h1 h2 => Nat.lt_of_lt_of_le (U1_py ad h1 h2) bb.size
        have F2 := later_is ho qBe.out
        have D2 : Below Wd.heap.size Wd V2 := D1.trans (bb.mono D1.size)
        have SD2 := HSI.out _ _ D2 SD0
        refine hK _ _ SD2 ?_
        clear hK K' bb ho  D1 SD1 N1_py U1_py
        try simp only [Act.put, List.setIfInBounds_toArray, List.set_cons_zero, List.set_cons_succ]
        refine anyL_ready (rs := [7, 8, 9]) (by kernel_rfl) (by simp) ?_
        refine AllL.cons (o := mqC7) rfl (fun K' hK => ?_) (AllL.cons (o := mqC8) rfl (fun K' hK => ?_) (AllL.cons (o := mqC9) rfl (fun K' hK => ?_) AllL.nil))
        · rw [if_pos (by rfl)]
          unfold mqC7
          go_simp
          go_at_call 14
          refine (qk5.out _ _ (qup.out _ (HD.out.trans (D2.mono HD.out.size))) F2).mono ?_
          rintro e3 V3 ⟨pz, cz, rfl, ho, bb⟩
          have N3_py := N2_py.below bb
          have U3_py : ∀ ad, py = some ad → 0 < Y.path.length → ad.block < V3.heap.size := fun ad h1 h2 => Nat.lt_of_lt_of_le (U2_py ad h1 h2) bb.size
          have F3 := F2.below bb
          have N3_pz := mq_nam ho
          have hrow := mq_row ho
          have U3_pz : ∀ ad, pz = some ad → 0 < Y.path.length → ad.block < V3.heap.size := fun ad h1 h2 => (hrow ad h1 h2).2
          have D3 : Below Wd.heap.size Wd V3 := D2.trans (bb.mono D2.size)
          have SD3 := HSI.out _ _ D3 SD0
          refine hK _ _ SD3 ?_
          clear hK K' bb ho hrow D2 SD2 N2_py F2 U2_py
          try simp only [Act.put, List.setIfInBounds_toArray, List.set_cons_zero, List.set_cons_succ]
          refine anyL_ready (rs := [8, 9]) (by kernel_rfl) (by simp) ?_
          refine AllL.cons (o := mqC8) rfl (fun K' hK => ?_) (AllL.cons (o := mqC9) rfl (fun K' hK => ?_) AllL.nil)
          · rw [if_pos (by rfl)]
            unfold mqC8
            go_simp
            obtain ⟨V4, hV4⟩ : ∃ V, V = V3.alloc (.cells #[.slice none 0 0, .string ⟨#[]⟩, .string ⟨#[]⟩, .string ⟨#[]⟩, .int .i64 0, .slice none 0 0] 30) := ⟨_, rfl⟩
            obtain ⟨ny, hny⟩ : ∃ n, n = V3.heap.size := ⟨_, rfl⟩
            have bb : Below V3.heap.size V3 V4 := by rw [hV4]; exact (Below.refl _ _).alloc (Nat.le_refl _) _
            have M4_ny : MBlk V4 ny #[.slice none 0 0, .string ⟨#[]⟩, .string ⟨#[]⟩, .string ⟨#[]⟩, .int .i64 0, .slice none 0 0] 30 := by rw [hV4, hny]; exact heap_alloc_new _ _
            have N4_py := N3_py.below bb
            have U4_py : ∀ ad, py = some ad → 0 < Y.path.length → ad.block < V4.heap.size := fun ad h1 h2 => Nat.lt_of_lt_of_le (U3_py ad h1 h2) bb.size
            have N4_pz := N3_pz.below bb
            have U4_pz : ∀ ad, pz = some ad → 0 < Y.path.length → ad.block < V4.heap.size := fun ad h1 h2 => Nat.lt_of_lt_of_le (U3_pz ad h1 h2) bb.size
            have F4 := F3.below bb
            have Ppyny : ∀ ad, py = some ad → 0 < Y.path.length → ad.block ≠ ny := fun ad h1 h2 => by have := U3_py ad h1 h2; omega
            have Ppzny : ∀ ad, pz = some ad → 0 < Y.path.length → ad.block ≠ ny := fun ad h1 h2 => by have := U3_pz ad h1 h2; omega
            have D4 : Below Wd.heap.size Wd V4 := D3.trans (bb.mono D3.size)
            have Gny : Wd.heap.size ≤ ny := by rw [hny]; exact D3.size
            have SD4 := HSI.out _ _ D4 SD0
            simp only [← hV4, ← hny]
            refine hK _ _ SD4 ?_
            clear hK K' hV4 hny bb D3 SD3 N3_py N3_pz F3 U3_py U3_pz
            try simp only [Act.put, List.setIfInBounds_toArray, List.set_cons_zero, List.set_cons_succ]
            refine anyL_ready (rs := [9]) (by kernel_rfl) (by simp) ?_
            refine AllL.cons (o := mqC9) rfl (fun K' hK => ?_) AllL.nil
            rw [if_pos (by rfl)]
            unfold mqC9
            go_simp
            obtain ⟨V5, hV5⟩ : ∃ V, V = V4.alloc (.cells #[.slice none 0 0, .string ⟨#[]⟩, .string ⟨#[]⟩, .string ⟨#[]⟩, .int .i64 0, .slice none 0 0] 30) := ⟨_, rfl⟩
            obtain ⟨nz, hnz⟩ : ∃ n, n = V4.heap.size := ⟨_, rfl⟩
            have bb : Below V4.heap.size V4 V5 := by rw [hV5]; exact (Below.refl _ _).alloc (Nat.le_refl _) _
            have M5_nz : MBlk V5 nz #[.slice none 0 0, .string ⟨#[]⟩, .string ⟨#[]⟩, .string ⟨#[]⟩, .int .i64 0, .slice none 0 0] 30 := by rw [hV5, hnz]; exact heap_alloc_new _ _
            have M5_ny := M4_ny.more bb
            have N5_py := N4_py.below bb
            have U5_py : ∀ ad, py = some ad → 0 < Y.path.length → ad.block < V5.heap.size := fun ad h1 h2 => Nat.lt_of_lt_of_le (U4_py ad h1 h2) bb.size
            have N5_pz := N4_pz.below bb
            have U5_pz : ∀ ad, pz = some ad → 0 < Y.path.length → ad.block < V5.heap.size := fun ad h1 h2 => Nat.lt_of_lt_of_le (U4_pz ad h1 h2) bb.size
            have F5 := F4.below bb
            have Qnynz : ny ≠ nz := by have := M4_ny.lt; omega
            have Ppynz : ∀ ad, py = some ad → 0 < Y.path.length → ad.block ≠ nz := fun ad h1 h2 => by have := U4_py ad h1 h2; omega
            have Ppznz : ∀ ad, pz = some ad → 0 < Y.path.length → ad.block ≠ nz := fun ad h1 h2 => by have := U4_pz ad h1 h2; omega
            have D5 : Below Wd.heap.size Wd V5 := D4.trans (bb.mono D4.size)
            have Gnz : Wd.heap.size ≤ nz := by rw [hnz]; exact D4.size
            have SD5 := HSI.out _ _ D5 SD0
            simp only [← hV5, ← hnz]
            refine hK _ _ SD5 ?_
            clear hK K' hV5 hnz bb D4 SD4 M4_ny N4_py N4_pz F4 U4_py U4_pz
            try simp only [Act.put, List.setIfInBounds_toArray, List.set_cons_zero, List.set_cons_succ]
            refine anyL_ready (rs := [10]) (by kernel_rfl) (by simp) ?_
            refine AllL.cons (o := mqC10) rfl (fun K' hK => ?_) AllL.nil
            rw [if_pos (by rfl)]
            unfold mqC10
            have r0 := M5_ny.cell 0
            have t0 := M5_ny.fr 0
            have r1 := M5_ny.cell 1
            have t1 := M5_ny.fr 1
            have r2 := M5_ny.cell 2
            have t2 := M5_ny.fr 2
            have r3 := M5_ny.cell 3
            have t3 := M5_ny.fr 3
            have r4 := M5_ny.cell 4
            have t4 := M5_ny.fr 4
            have r5 := M5_ny.cell 5
            have t5 := M5_ny.fr 5
            simp only [List.getElem?_toArray, List.getElem?_cons_zero, List.getElem?_cons_succ] at r0 r1 r2 r3 r4 r5
            go_simp
            obtain ⟨V6, hV6⟩ : ∃ V, V = ((((((V5.setCell ⟨ny, 0, none⟩ (.slice py Y.path.length cy)).setCell ⟨ny, 1, none⟩ (.string Y.id)).setCell ⟨ny, 2, none⟩ (.string Y.title)).setCell ⟨ny, 3, none⟩ (.string Y.link)).setCell ⟨ny, 4, none⟩ (.int .i64 Y.upd)).setCell ⟨ny, 5, none⟩ (.slice none 0 0)) := ⟨_, rfl⟩
            have M6_ny : MBlk V6 ny #[.slice py Y.path.length cy, .string Y.id, .string Y.title, .string Y.link, .int .i64 Y.upd, .slice none 0 0] 30 := by rw [hV6]; exact mblk_set6 M5_ny _ _ _ _ _ _
            have M6_nz := (show MBlk V6 nz _ _ by rw [hV6]; exact mq_far6 M5_nz (by first | exact Qnzny | exact fun e => Qnynz e.symm) _ _ _ _ _ _)
            have N6_py : NamAt V6 py Y.path := by rw [hV6]; exact mq_namfar6 N5_py Ppyny _ _ _ _ _ _
            have N6_pz : NamAt V6 pz Y.path := by rw [hV6]; exact mq_namfar6 N5_pz Ppzny _ _ _ _ _ _
            have D6 : Below Wd.heap.size Wd V6 := by rw [hV6]; exact mq_belowset6 D5 Gny _ _ _ _ _ _
            have SD6 := HSI.out _ _ D6 SD0
            simp only [← hV6]
            refine hK _ _ SD6 ?_
            clear hK K' hV6 D5 SD5 M5_ny M5_nz N5_py N5_pz r0 t0 r1 t1 r2 t2 r3 t3 r4 t4 r5 t5
            try simp only [Act.put, List.setIfInBounds_toArray, List.set_cons_zero, List.set_cons_succ]
            refine anyL_ready (rs := [11]) (by kernel_rfl) (by simp) ?_
            refine AllL.cons (o := mqC11) rfl (fun K' hK => ?_) AllL.nil
            rw [if_pos (by rfl)]
            unfold mqC11
            have r0 := M6_nz.cell 0
            have t0 := M6_nz.fr 0
            have r1 := M6_nz.cell 1
            have t1 := M6_nz.fr 1
            have r2 := M6_nz.cell 2
            have t2 := M6_nz.fr 2
            have r3 := M6_nz.cell 3
            have t3 := M6_nz.fr 3
            have r4 := M6_nz.cell 4
            have t4 := M6_nz.fr 4
            have r5 := M6_nz.cell 5
            have t5 := M6_nz.fr 5
            simp only [List.getElem?_toArray, List.getElem?_cons_zero, List.getElem?_cons_succ] at r0 r1 r2 r3 r4 r5
            go_simp
            obtain ⟨V7, hV7⟩ : ∃ V, V = ((((((V6.setCell ⟨nz, 0, none⟩ (.slice pz Y.path.length cz)).setCell ⟨nz, 1, none⟩ (.string Y.id)).setCell ⟨nz, 2, none⟩ (.string Y.title)).setCell ⟨nz, 3, none⟩ (.string Y.link)).setCell ⟨nz, 4, none⟩ (.int .i64 Y.upd)).setCell ⟨nz, 5, none⟩ (.slice none 0 0)) := ⟨_, rfl⟩
            have M7_nz : MBlk V7 nz #[.slice pz Y.path.length cz, .string Y.id, .string Y.title, .string Y.link, .int .i64 Y.upd, .slice none 0 0] 30 := by rw [hV7]; exact mblk_set6 M6_nz _ _ _ _ _ _
            have M7_ny := (show MBlk V7 ny _ _ by rw [hV7]; exact mq_far6 M6_ny (by first | exact Qnynz | exact fun e => Qnzny e.symm) _ _ _ _ _ _)
            have N7_py : NamAt V7 py Y.path := by rw [hV7]; exact mq_namfar6 N6_py Ppynz _ _ _ _ _ _
            have N7_pz : NamAt V7 pz Y.path := by rw [hV7]; exact mq_namfar6 N6_pz Ppznz _ _ _ _ _ _
            have D7 : Below Wd.heap.size Wd V7 := by rw [hV7]; exact mq_belowset6 D6 Gnz _ _ _ _ _ _
            have SD7 := HSI.out _ _ D7 SD0
            simp only [← hV7]
            refine hK _ _ SD7 ?_
            clear hK K' hV7 D6 SD6 M6_ny M6_nz N6_py N6_pz r0 t0 r1 t1 r2 t2 r3 t3 r4 t4 r5 t5
            try simp only [Act.put, List.setIfInBounds_toArray, List.set_cons_zero, List.set_cons_succ]
            refine anyL_done (by kernel_rfl) ?_ _
            go_wp2
            go_meet
            exact ⟨ny, nz, py, cy, pz, cz, rfl, rfl, M7_ny, M7_nz, N7_py, N7_pz, SD7, HD.out.trans (D7.mono HD.out.size)⟩
          · rw [if_pos (by rfl)]
            unfold mqC9
            go_simp
            obtain ⟨V4, hV4⟩ : ∃ V, V = V3.alloc (.cells #[.slice none 0 0, .string ⟨#[]⟩, .string ⟨#[]⟩, .string ⟨#[]⟩, .int .i64 0, .slice none 0 0] 30) := ⟨_, rfl⟩
            obtain ⟨nz, hnz⟩ : ∃ n, n = V3.heap.size := ⟨_, rfl⟩
            have bb : Below V3.heap.size V3 V4 := by rw [hV4]; exact (Below.refl _ _).alloc (Nat.le_refl _) _
            have M4_nz : MBlk V4 nz #[.slice none 0 0, .string ⟨#[]⟩, .string ⟨#[]⟩, .string ⟨#[]⟩, .int .i64 0, .slice none 0 0] 30 := by rw [hV4, hnz]; exact heap_alloc_new _ _
            have N4_py := N3_py.below bb
            have U4_py : ∀ ad, py = some ad → 0 < Y.path.length → ad.block < V4.heap.size := fun ad h1 h2 => Nat.lt_of_lt_of_le (U3_py ad h1 h2) bb.size
            have N4_pz := N3_pz.below bb
            have U4_pz : ∀ ad, pz = some ad → 0 < Y.path.length → ad.block < V4.heap.size := fun ad h1 h2 => Nat.lt_of_lt_of_le (U3_pz ad h1 h2) bb.size
            have F4 := F3.below bb
            have Ppynz : ∀ ad, py = some ad → 0 < Y.path.length → ad.block ≠ nz := fun ad h1 h2 => by have := U3_py ad h1 h2; omega
            have Ppznz : ∀ ad, pz = some ad → 0 < Y.path.length → ad.block ≠ nz := fun ad h1 h2 => by have := U3_pz ad h1 h2; omega
            have D4 : Below Wd.heap.size Wd V4 := D3.trans (bb.mono D3.size)
            have Gnz : Wd.heap.size ≤ nz := by rw [hnz]; exact D3.size
            have SD4 := HSI.out _ _ D4 SD0
            simp only [← hV4, ← hnz]
            refine hK _ _ SD4 ?_
            clear hK K' hV4 hnz bb D3 SD3 N3_py N3_pz F3 U3_py U3_pz
            try simp only [Act.put, List.setIfInBounds_toArray, List.set_cons_zero, List.set_cons_succ]
            refine anyL_ready (rs := [8]) (by kernel_rfl) (by simp) ?_
            refine AllL.cons (o := mqC8) rfl (fun K' hK => ?_) AllL.nil
            rw [if_pos (by rfl)]
            unfold mqC8
            go_simp
            obtain ⟨V5, hV5⟩ : ∃ V, V = V4.alloc (.cells #[.slice none 0 0, .string ⟨#[]⟩, .string ⟨#[]⟩, .string ⟨#[]⟩, .int .i64 0, .slice none 0 0] 30) := ⟨_, rfl⟩
            obtain ⟨ny, hny⟩ : ∃ n, n = V4.heap.size := ⟨_, rfl⟩
            have bb : Below V4.heap.size V4 V5 := by rw [hV5]; exact (Below.refl _ _).alloc (Nat.le_refl _) _
            have M5_ny : MBlk V5 ny #[.slice none 0 0, .string ⟨#[]⟩, .string ⟨#[]⟩, .string ⟨#[]⟩, .int .i64 0, .slice none 0 0] 30 := by rw [hV5, hny]; exact heap_alloc_new _ _
            have M5_nz := M4_nz.more bb
            have N5_py := N4_py.below bb
            have U5_py : ∀ ad, py = some ad → 0 < Y.path.length → ad.block < V5.heap.size := fun ad h1 h2 => Nat.lt_of_lt_of_le (U4_py ad h1 h2) bb.size
            have N5_pz := N4_pz.below bb
            have U5_pz : ∀ ad, pz = some ad → 0 < Y.path.length → ad.block < V5.heap.size := fun ad h1 h2 => Nat.lt_of_lt_of_le (U4_pz ad h1 h2) bb.size
            have F5 := F4.below bb
            have Qnzny : nz ≠ ny := by have := M4_nz.lt; omega
            have Ppyny : ∀ ad, py = some ad → 0 < Y.path.length → ad.block ≠ ny := fun ad h1 h2 => by have := U4_py ad h1 h2; omega
            have Ppzny : ∀ ad, pz = some ad → 0 < Y.path.length → ad.block ≠ ny := fun ad h1 h2 => by have := U4_pz ad h1 h2; omega
            have D5 : Below Wd.heap.size Wd V5 := D4.trans (bb.mono D4.size)
            have Gny : Wd.heap.size ≤ ny := by rw [hny]; exact D4.size
            have SD5 := HSI.out _ _ D5 SD0
            simp only [← hV5, ← hny]
            refine hK _ _ SD5 ?_
            clear hK K' hV5 hny bb D4 SD4 M4_nz N4_py N4_pz F4 U4_py U4_pz
            try simp only [Act.put, List.setIfInBounds_toArray, List.set_cons_zero, List.set_cons_succ]
            refine anyL_ready (rs := [10]) (by kernel_rfl) (by simp) ?_
            refine AllL.cons (o := mqC10) rfl (fun K' hK => ?_) AllL.nil
            rw [if_pos (by rfl)]
            unfold mqC10
            have r0 := M5_ny.cell 0
            have t0 := M5_ny.fr 0
            have r1 := M5_ny.cell 1
            have t1 := M5_ny.fr 1
            have r2 := M5_ny.cell 2
            have t2 := M5_ny.fr 2
            have r3 := M5_ny.cell 3
            have t3 := M5_ny.fr 3
            have r4 := M5_ny.cell 4
            have t4 := M5_ny.fr 4
            have r5 := M5_ny.cell 5
            have t5 := M5_ny.fr 5
            simp only [List.getElem?_toArray, List.getElem?_cons_zero, List.getElem?_cons_succ] at r0 r1 r2 r3 r4 r5
            go_simp
            obtain ⟨V6, hV6⟩ : ∃ V, V = ((((((V5.setCell ⟨ny, 0, none⟩ (.slice py Y.path.length cy)).setCell ⟨ny, 1, none⟩ (.string Y.id)).setCell ⟨ny, 2, none⟩ (.string Y.title)).setCell ⟨ny, 3, none⟩ (.string Y.link)).setCell ⟨ny, 4, none⟩ (.int .i64 Y.upd)).setCell ⟨ny, 5, none⟩ (.slice none 0 0)) := ⟨_, rfl⟩
            have M6_ny : MBlk V6 ny #[.slice py Y.path.length cy, .string Y.id, .string Y.title, .string Y.link, .int .i64 Y.upd, .slice none 0 0] 30 := by rw [hV6]; exact mblk_set6 M5_ny _ _ _ _ _ _
            have M6_nz := (show MBlk V6 nz _ _ by rw [hV6]; exact mq_far6 M5_nz (by first | exact Qnzny | exact fun e => Qnynz e.symm) _ _ _ _ _ _)
            have N6_py : NamAt V6 py Y.path := by rw [hV6]; exact mq_namfar6 N5_py Ppyny _ _ _ _ _ _
            have N6_pz : NamAt V6 pz Y.path := by rw [hV6]; exact mq_namfar6 N5_pz Ppzny _ _ _ _ _ _
            have D6 : Below Wd.heap.size Wd V6 := by rw [hV6]; exact mq_belowset6 D5 Gny _ _ _ _ _ _
            have SD6 := HSI.out _ _ D6 SD0
            simp only [← hV6]
            refine hK _ _ SD6 ?_
            clear hK K' hV6 D5 SD5 M5_ny M5_nz N5_py N5_pz r0 t0 r1 t1 r2 t2 r3 t3 r4 t4 r5 t5
            try simp only [Act.put, List.setIfInBounds_toArray, List.set_cons_zero, List.set_cons_succ]
            refine anyL_ready (rs := [11]) (by kernel_rfl) (by simp) ?_
            refine AllL.cons (o := mqC11) rfl (fun K' hK => ?_) AllL.nil
            rw [if_pos (by rfl)]
            unfold mqC11
            have r0 := M6_nz.cell 0
            have t0 := M6_nz.fr 0
            have r1 := M6_nz.cell 1
            have t1 := M6_nz.fr 1
            have r2 := M6_nz.cell 2
            have t2 := M6_nz.fr 2
            have r3 := M6_nz.cell 3
            have t3 := M6_nz.fr 3
            have r4 := M6_nz.cell 4
            have t4 := M6_nz.fr 4
            have r5 := M6_nz.cell 5
            have t5 := M6_nz.fr 5
            simp only [List.getElem?_toArray, List.getElem?_cons_zero, List.getElem?_cons_succ] at r0 r1 r2 r3 r4 r5
            go_simp
            obtain ⟨V7, hV7⟩ : ∃ V, V = ((((((V6.setCell ⟨nz, 0, none⟩ (.slice pz Y.path.length cz)).setCell ⟨nz, 1, none⟩ (.string Y.id)).setCell ⟨nz, 2, none⟩ (.string Y.title)).setCell ⟨nz, 3, none⟩ (.string Y.link)).setCell ⟨nz, 4, none⟩ (.int .i64 Y.upd)).setCell ⟨nz, 5, none⟩ (.slice none 0 0)) := ⟨_, rfl⟩
            have M7_nz : MBlk V7 nz #[.slice pz Y.path.length cz, .string Y.id, .string Y.title, .string Y.link, .int .i64 Y.upd, .slice none 0 0] 30 := by rw [hV7]; exact mblk_set6 M6_nz _ _ _ _ _ _
            have M7_ny := (show MBlk V7 ny _ _ by rw [hV7]; exact mq_far6 M6_ny (by first | exact Qnynz | exact fun e => Qnzny e.symm) _ _ _ _ _ _)
            have N7_py : NamAt V7 py Y.path := by rw [hV7]; exact mq_namfar6 N6_py Ppynz _ _ _ _ _ _
            have N7_pz : NamAt V7 pz Y.path := by rw [hV7]; exact mq_namfar6 N6_pz Ppznz _ _ _ _ _ _
            have D7 : Below Wd.heap.size Wd V7 := by rw [hV7]; exact mq_belowset6 D6 Gnz _ _ _ _ _ _
            have SD7 := HSI.out _ _ D7 SD0
            simp only [← hV7]
            refine hK _ _ SD7 ?_
            clear hK K' hV7 D6 SD6 M6_ny M6_nz N6_py N6_pz r0 t0 r1 t1 r2 t2 r3 t3 r4 t4 r5 t5
            try simp only [Act.put, List.setIfInBounds_toArray, List.set_cons_zero, List.set_cons_succ]
            refine anyL_done (by kernel_rfl) ?_ _
            go_wp2
            go_meet
            exact ⟨ny, nz, py, cy, pz, cz, rfl, rfl, M7_ny, M7_nz, N7_py, N7_pz, SD7, HD.out.trans (D7.mono HD.out.size)⟩
        · rw [if_pos (by rfl)]
          unfold mqC8
          go_simp
          obtain ⟨V3, hV3⟩ : ∃ V, V = V2.alloc (.cells #[.slice none 0 0, .string ⟨#[]⟩, .string ⟨#[]⟩, .string ⟨#[]⟩, .int .i64 0, .slice none 0 0] 30) := ⟨_, rfl⟩
          obtain ⟨ny, hny⟩ : ∃ n, n = V2.heap.size := ⟨_, rfl⟩
          have bb : Below V2.heap.size V2 V3 := by rw [hV3]; exact (Below.refl _ _).alloc (Nat.le_refl _) _
          have M3_ny : MBlk V3 ny #[.slice none 0 0, .string ⟨#[]⟩, .string ⟨#[]⟩, .string ⟨#[]⟩, .int .i64 0, .slice none 0 0] 30 := by rw [hV3, hny]; exact heap_alloc_new _ _
          have N3_py := N2_py.below bb
          have U3_py : ∀ ad, py = some ad → 0 < Y.path.length → ad.block < V3.heap.size := fun ad h1 h2 => Nat.lt_of_lt_of_le (U2_py ad h1 h2) bb.size
          have F3 := F2.below bb
          have Ppyny : ∀ ad, py = some ad → 0 < Y.path.length → ad.block ≠ ny := fun ad h1 h2 => by have := U2_py ad h1 h2; omega
          have D3 : Below Wd.heap.size Wd V3 := D2.trans (bb.mono D2.size)
          have Gny : Wd.heap.size ≤ ny := by rw [hny]; exact D2.size
          have SD3 := HSI.out _ _ D3 SD0
          simp only [← hV3, ← hny]
          refine hK _ _ SD3 ?_
          clear hK K' hV3 hny bb D2 SD2 N2_py F2 U2_py
          try simp only [Act.put, List.setIfInBounds_toArray, List.set_cons_zero, List.set_cons_succ]
          refine anyL_ready (rs := [7, 9]) (by kernel_rfl) (by simp) ?_
          refine AllL.cons (o := mqC7) rfl (fun K' hK => ?_) (AllL.cons (o := mqC9) rfl (fun K' hK => ?_) AllL.nil)
          · rw [if_pos (by rfl)]
            unfold mqC7
            go_simp
            go_at_call 14
            refine (qk5.out _ _ (qup.out _ (HD.out.trans (D3.mono HD.out.size))) F3).mono ?_
            rintro e4 V4 ⟨pz, cz, rfl, ho, bb⟩
            have M4_ny := M3_ny.more bb
            have N4_py := N3_py.below bb
            have U4_py : ∀ ad, py = some ad → 0 < Y.path.length → ad.block < V4.heap.size := fun ad h1 h2 => Nat.lt_of_lt_of_le (U3_py ad h1 h2) bb.size
            have F4 := F3.below bb
            have N4_pz := mq_nam ho
            have hrow := mq_row ho
            have U4_pz : ∀ ad, pz = some ad → 0 < Y.path.length → ad.block < V4.heap.size := fun ad h1 h2 => (hrow ad h1 h2).2
            have Ppzny : ∀ ad, pz = some ad → 0 < Y.path.length → ad.block ≠ ny := fun ad h1 h2 => by have := (hrow ad h1 h2).1; have := M3_ny.lt; omega
            have D4 : Below Wd.heap.size Wd V4 := D3.trans (bb.mono D3.size)
            have SD4 := HSI.out _ _ D4 SD0
            refine hK _ _ SD4 ?_
            clear hK K' bb ho hrow D3 SD3 M3_ny N3_py F3 U3_py
            try simp only [Act.put, List.setIfInBounds_toArray, List.set_cons_zero, List.set_cons_succ]
            refine anyL_ready (rs := [9]) (by kernel_rfl) (by simp) ?_
            refine AllL.cons (o := mqC9) rfl (fun K' hK => ?_) AllL.nil
            rw [if_pos (by rfl)]
            unfold mqC9
            go_simp
            obtain ⟨V5, hV5⟩ : ∃ V, V = V4.alloc (.cells #[.slice none 0 0, .string ⟨#[]⟩, .string ⟨#[]⟩, .string ⟨#[]⟩, .int .i64 0, .slice none 0 0] 30) := ⟨_, rfl⟩
            obtain ⟨nz, hnz⟩ : ∃ n, n = V4.heap.size := ⟨_, rfl⟩
            have bb : Below V4.heap.size V4 V5 := by rw [hV5]; exact (Below.refl _ _).alloc (Nat.le_refl _) _
            have M5_nz : MBlk V5 nz #[.slice none 0 0, .string ⟨#[]⟩, .string ⟨#[]⟩, .string ⟨#[]⟩, .int .i64 0, .slice none 0 0] 30 := by rw [hV5, hnz]; exact heap_alloc_new _ _
            have M5_ny := M4_ny.more bb
            have N5_py := N4_py.below bb
            have U5_py : ∀ ad, py = some ad → 0 < Y.path.length → ad.block < V5.heap.size := fun ad h1 h2 => Nat.lt_of_lt_of_le (U4_py ad h1 h2) bb.size
            have N5_pz := N4_pz.below bb
            have U5_pz : ∀ ad, pz = some ad → 0 < Y.path.length → ad.block < V5.heap.size := fun ad h1 h2 => Nat.lt_of_lt_of_le (U4_pz ad h1 h2) bb.size
            have F5 := F4.below bb
            have Qnynz : ny ≠ nz := by have := M4_ny.lt; omega
            have Ppynz : ∀ ad, py = some ad → 0 < Y.path.length → ad.block ≠ nz := fun ad h1 h2 => by have := U4_py ad h1 h2; omega
            have Ppznz : ∀ ad, pz = some ad → 0 < Y.path.length → ad.block ≠ nz := fun ad h1 h2 => by have := U4_pz ad h1 h2; omega
            have D5 : Below Wd.heap.size Wd V5 := D4.trans (bb.mono D4.size)
            have Gnz : Wd.heap.size ≤ nz := by rw [hnz]; exact D4.size
            have SD5 := HSI.out _ _ D5 SD0
            simp only [← hV5, ← hnz]
            refine hK _ _ SD5 ?_
            clear hK K' hV5 hnz bb D4 SD4 M4_ny N4_py N4_pz F4 U4_py U4_pz
            try simp only [Act.put, List.setIfInBounds_toArray, List.set_cons_zero, List.set_cons_succ]
            refine anyL_ready (rs := [10]) (by kernel_rfl) (by simp) ?_
            refine AllL.cons (o := mqC10) rfl (fun K' hK => ?_) AllL.nil
            rw [if_pos (by rfl)]
            unfold mqC10
            have r0 := M5_ny.cell 0
            have t0 := M5_ny.fr 0
            have r1 := M5_ny.cell 1
            have t1 := M5_ny.fr 1
            have r2 := M5_ny.cell 2
            have t2 := M5_ny.fr 2
            have r3 := M5_ny.cell 3
            have t3 := M5_ny.fr 3
            have r4 := M5_ny.cell 4
            have t4 := M5_ny.fr 4
            have r5 := M5_ny.cell 5
            have t5 := M5_ny.fr 5
            simp only [List.getElem?_toArray, List.getElem?_cons_zero, List.getElem?_cons_succ] at r0 r1 r2 r3 r4 r5
            go_simp
            obtain ⟨V6, hV6⟩ : ∃ V, V = ((((((V5.setCell ⟨ny, 0, none⟩ (.slice py Y.path.length cy)).setCell ⟨ny, 1, none⟩ (.string Y.id)).setCell ⟨ny, 2, none⟩ (.string Y.title)).setCell ⟨ny, 3, none⟩ (.string Y.link)).setCell ⟨ny, 4, none⟩ (.int .i64 Y.upd)).setCell ⟨ny, 5, none⟩ (.slice none 0 0)) := ⟨_, rfl⟩
            have M6_ny : MBlk V6 ny #[.slice py Y.path.length cy, .string Y.id, .string Y.title, .string Y.link, .int .i64 Y.upd, .slice none 0 0] 30 := by rw [hV6]; exact mblk_set6 M5_ny _ _ _ _ _ _
            have M6_nz := (show MBlk V6 nz _ _ by rw [hV6]; exact mq_far6 M5_nz (by first | exact Qnzny | exact fun e => Qnynz e.symm) _ _ _ _ _ _)
            have N6_py : NamAt V6 py Y.path := by rw [hV6]; exact mq_namfar6 N5_py Ppyny _ _ _ _ _ _
            have N6_pz : NamAt V6 pz Y.path := by rw [hV6]; exact mq_namfar6 N5_pz Ppzny _ _ _ _ _ _
            have D6 : Below Wd.heap.size Wd V6 := by rw [hV6]; exact mq_belowset6 D5 Gny _ _ _ _ _ _
            have SD6 := HSI.out _ _ D6 SD0
            simp only [← hV6]
            refine hK _ _ SD6 ?_
            clear hK K' hV6 D5 SD5 M5_ny M5_nz N5_py N5_pz r0 t0 r1 t1 r2 t2 r3 t3 r4 t4 r5 t5
            try simp only [Act.put, List.setIfInBounds_toArray, List.set_cons_zero, List.set_cons_succ]
            refine anyL_ready (rs := [11]) (by kernel_rfl) (by simp) ?_
            refine AllL.cons (o := mqC11) rfl (fun K' hK => ?_) AllL.nil
            rw [if_pos (by rfl)]
            unfold mqC11
            have r0 := M6_nz.cell 0
            have t0 := M6_nz.fr 0
            have r1 := M6_nz.cell 1
            have t1 := M6_nz.fr 1
            have r2 := M6_nz.cell 2
            have t2 := M6_nz.fr 2
            have r3 := M6_nz.cell 3
            have t3 := M6_nz.fr 3
            have r4 := M6_nz.cell 4
            have t4 := M6_nz.fr 4
            have r5 := M6_nz.cell 5
            have t5 := M6_nz.fr 5
            simp only [List.getElem?_toArray, List.getElem?_cons_zero, List.getElem?_cons_succ] at r0 r1 r2 r3 r4 r5
            go_simp
            obtain ⟨V7, hV7⟩ : ∃ V, V = ((((((V6.setCell ⟨nz, 0, none⟩ (.slice pz Y.path.length cz)).setCell ⟨nz, 1, none⟩ (.string Y.id)).setCell ⟨nz, 2, none⟩ (.string Y.title)).setCell ⟨nz, 3, none⟩ (.string Y.link)).setCell ⟨nz, 4, none⟩ (.int .i64 Y.upd)).setCell ⟨nz, 5, none⟩ (.slice none 0 0)) := ⟨_, rfl⟩
            have M7_nz : MBlk V7 nz #[.slice pz Y.path.length cz, .string Y.id, .string Y.title, .string Y.link, .int .i64 Y.upd, .slice none 0 0] 30 := by rw [hV7]; exact mblk_set6 M6_nz _ _ _ _ _ _
            have M7_ny := (show MBlk V7 ny _ _ by rw [hV7]; exact mq_far6 M6_ny (by first | exact Qnynz | exact fun e => Qnzny e.symm) _ _ _ _ _ _)
            have N7_py : NamAt V7 py Y.path := by rw [hV7]; exact mq_namfar6 N6_py Ppynz _ _ _ _ _ _
            have N7_pz : NamAt V7 pz Y.path := by rw [hV7]; exact mq_namfar6 N6_pz Ppznz _ _ _ _ _ _
            have D7 : Below Wd.heap.size Wd V7 := by rw [hV7]; exact mq_belowset6 D6 Gnz _ _ _ _ _ _
            have SD7 := HSI.out _ _ D7 SD0
            simp only [← hV7]
            refine hK _ _ SD7 ?_
            clear hK K' hV7 D6 SD6 M6_ny M6_nz N6_py N6_pz r0 t0 r1 t1 r2 t2 r3 t3 r4 t4 r5 t5
            try simp only [Act.put, List.setIfInBounds_toArray, List.set_cons_zero, List.set_cons_succ]
            refine anyL_done (by kernel_rfl) ?_ _
            go_wp2
            go_meet
            exact ⟨ny, nz, py, cy, pz, cz, rfl, rfl, M7_ny, M7_nz, N7_py, N7_pz, SD7, HD.out.trans (D7.mono HD.out.size)⟩
          · rw [if_pos (by rfl)]
            unfold mqC9
            go_simp
            obtain ⟨V4, hV4⟩ : ∃ V, V = V3.alloc (.cells #[.slice none 0 0, .string ⟨#[]⟩, .string ⟨#[]⟩, .string ⟨#[]⟩, .int .i64 0, .slice none 0 0] 30) := ⟨_, rfl⟩
            obtain ⟨nz, hnz⟩ : ∃ n, n = V3.heap.size := ⟨_, rfl⟩
            have bb : Below V3.heap.size V3 V4 := by rw [hV4]; exact (Below.refl _ _).alloc (Nat.le_refl _) _
            have M4_nz : MBlk V4 nz #[.slice none 0 0, .string ⟨#[]⟩, .string ⟨#[]⟩, .string ⟨#[]⟩, .int .i64 0, .slice none 0 0] 30 := by rw [hV4, hnz]; exact heap_alloc_new _ _
            have M4_ny := M3_ny.more bb
            have N4_py := N3_py.below bb
            have U4_py : ∀ ad, py = some ad → 0 < Y.path.length → ad.block < V4.heap.size := fun ad h1 h2 => Nat.lt_of_lt_of_le (U3_py ad h1 h2) bb.size
            have F4 := F3.below bb
            have Qnynz : ny ≠ nz := by have := M3_ny.lt; omega
            have Ppynz : ∀ ad, py = some ad → 0 < Y.path.length → ad.block ≠ nz := fun ad h1 h2 => by have := U3_py ad h1 h2; omega
            have D4 : Below Wd.heap.size Wd V4 := D3.trans (bb.mono D3.size)
            have Gnz : Wd.heap.size ≤ nz := by rw [hnz]; exact D3.size
            have SD4 := HSI.out _ _ D4 SD0
            simp only [← hV4, ← hnz]
            refine hK _ _ SD4 ?_
            clear hK K' hV4 hnz bb D3 SD3 M3_ny N3_py F3 U3_py
            try simp only [Act.put, List.setIfInBounds_toArray, List.set_cons_zero, List.set_cons_succ]
            refine anyL_ready (rs := [7]) (by kernel_rfl) (by simp) ?_
            refine AllL.cons (o := mqC7) rfl (fun K' hK => ?_) AllL.nil
            rw [if_pos (by rfl)]
            unfold mqC7
            go_simp
            go_at_call 14
            refine (qk5.out _ _ (qup.out _ (HD.out.trans (D4.mono HD.out.size))) F4).mono ?_
            rintro e5 V5 ⟨pz, cz, rfl, ho, bb⟩
            have M5_ny := M4_ny.more bb
            have M5_nz := M4_nz.more bb
            have N5_py := N4_py.below bb
            have U5_py : ∀ ad, py = some ad → 0 < Y.path.length → ad.block < V5.heap.size := fun ad h1 h2 => Nat.lt_of_lt_of_le (U4_py ad h1 h2) bb.size
            have F5 := F4.below bb
            have N5_pz := mq_nam ho
            have hrow := mq_row ho
            have U5_pz : ∀ ad, pz = some ad → 0 < Y.path.length → ad.block < V5.heap.size := fun ad h1 h2 => (hrow ad h1 h2).2
            have Ppzny : ∀ ad, pz = some ad → 0 < Y.path.length → ad.block ≠ ny := fun ad h1 h2 => by have := (hrow ad h1 h2).1; have := M4_ny.lt; omega
            have Ppznz : ∀ ad, pz = some ad → 0 < Y.path.length → ad.block ≠ nz := fun ad h1 h2 => by have := (hrow ad h1 h2).1; have := M4_nz.lt; omega
            have D5 : Below Wd.heap.size Wd V5 := D4.trans (bb.mono D4.size)
            have SD5 := HSI.out _ _ D5 SD0
            refine hK _ _ SD5 ?_
            clear hK K' bb ho hrow D4 SD4 M4_ny M4_nz N4_py F4 U4_py
            try simp only [Act.put, List.setIfInBounds_toArray, List.set_cons_zero, List.set_cons_succ]
            refine anyL_ready (rs := [10]) (by kernel_rfl) (by simp) ?_
            refine AllL.cons (o := mqC10) rfl (fun K' hK => ?_) AllL.nil
            rw [if_pos (by rfl)]
            unfold mqC10
            have r0 := M5_ny.cell 0
            have t0 := M5_ny.fr 0
            have r1 := M5_ny.cell 1
            have t1 := M5_ny.fr 1
            have r2 := M5_ny.cell 2
            have t2 := M5_ny.fr 2
            have r3 := M5_ny.cell 3
            have t3 := M5_ny.fr 3
            have r4 := M5_ny.cell 4
            have t4 := M5_ny.fr 4
            have r5 := M5_ny.cell 5
            have t5 := M5_ny.fr 5
            simp only [List.getElem?_toArray, List.getElem?_cons_zero, List.getElem?_cons_succ] at r0 r1 r2 r3 r4 r5
            go_simp
            obtain ⟨V6, hV6⟩ : ∃ V, V = ((((((V5.setCell ⟨ny, 0, none⟩ (.slice py Y.path.length cy)).setCell ⟨ny, 1, none⟩ (.string Y.id)).setCell ⟨ny, 2, none⟩ (.string Y.title)).setCell ⟨ny, 3, none⟩ (.string Y.link)).setCell ⟨ny, 4, none⟩ (.int .i64 Y.upd)).setCell ⟨ny, 5, none⟩ (.slice none 0 0)) := ⟨_, rfl⟩
            have M6_ny : MBlk V6 ny #[.slice py Y.path.length cy, .string Y.id, .string Y.title, .string Y.link, .int .i64 Y.upd, .slice none 0 0] 30 := by rw [hV6]; exact mblk_set6 M5_ny _ _ _ _ _ _
            have M6_nz := (show MBlk V6 nz _ _ by rw [hV6]; exact mq_far6 M5_nz (by first | exact Qnzny | exact fun e => Qnynz e.symm) _ _ _ _ _ _)
            have N6_py : NamAt V6 py Y.path := by rw [hV6]; exact mq_namfar6 N5_py Ppyny _ _ _ _ _ _
            have N6_pz : NamAt V6 pz Y.path := by rw [hV6]; exact mq_namfar6 N5_pz Ppzny _ _ _ _ _ _
            have D6 : Below Wd.heap.size Wd V6 := by rw [hV6]; exact mq_belowset6 D5 Gny _ _ _ _ _ _
            have SD6 := HSI.out _ _ D6 SD0
            simp only [← hV6]
            refine hK _ _ SD6 ?_
            clear hK K' hV6 D5 SD5 M5_ny M5_nz N5_py N5_pz r0 t0 r1 t1 r2 t2 r3 t3 r4 t4 r5 t5
            try simp only [Act.put, List.setIfInBounds_toArray, List.set_cons_zero, List.set_cons_succ]
            refine anyL_ready (rs := [11]) (by kernel_rfl) (by simp) ?_
            refine AllL.cons (o := mqC11) rfl (fun K' hK => ?_) AllL.nil
            rw [if_pos (by rfl)]
            unfold mqC11
            have r0 := M6_nz.cell 0
            have t0 := M6_nz.fr 0
            have r1 := M6_nz.cell 1
            have t1 := M6_nz.fr 1
            have r2 := M6_nz.cell 2
            have t2 := M6_nz.fr 2
            have r3 := M6_nz.cell 3
            have t3 := M6_nz.fr 3
            have r4 := M6_nz.cell 4
            have t4 := M6_nz.fr 4
            have r5 := M6_nz.cell 5
            have t5 := M6_nz.fr 5
            simp only [List.getElem?_toArray, List.getElem?_cons_zero, List.getElem?_cons_succ] at r0 r1 r2 r3 r4 r5
            go_simp
            obtain ⟨V7, hV7⟩ : ∃ V, V = ((((((V6.setCell ⟨nz, 0, none⟩ (.slice pz Y.path.length cz)).setCell ⟨nz, 1, none⟩ (.string Y.id)).setCell ⟨nz, 2, none⟩ (.string Y.title)).setCell ⟨nz, 3, none⟩ (.string Y.link)).setCell ⟨nz, 4, none⟩ (.int .i64 Y.upd)).setCell ⟨nz, 5, none⟩ (.slice none 0 0)) := ⟨_, rfl⟩
            have M7_nz : MBlk V7 nz #[.slice pz Y.path.length cz, .string Y.id, .string Y.title, .string Y.link, .int .i64 Y.upd, .slice none 0 0] 30 := by rw [hV7]; exact mblk_set6 M6_nz _ _ _ _ _ _
            have M7_ny := (show MBlk V7 ny _ _ by rw [hV7]; exact mq_far6 M6_ny (by first | exact Qnynz | exact fun e => Qnzny e.symm) _ _ _ _ _ _)
            have N7_py : NamAt V7 py Y.path := by rw [hV7]; exact mq_namfar6 N6_py Ppynz _ _ _ _ _ _
            have N7_pz : NamAt V7 pz Y.path := by rw [hV7]; exact mq_namfar6 N6_pz Ppznz _ _ _ _ _ _
            have D7 : Below Wd.heap.size Wd V7 := by rw [hV7]; exact mq_belowset6 D6 Gnz _ _ _ _ _ _
            have SD7 := HSI.out _ _ D7 SD0
            simp only [← hV7]
            refine hK _ _ SD7 ?_
            clear hK K' hV7 D6 SD6 M6_ny M6_nz N6_py N6_pz r0 t0 r1 t1 r2 t2 r3 t3 r4 t4 r5 t5
            try simp only [Act.put, List.setIfInBounds_toArray, List.set_cons_zero, List.set_cons_succ]
            refine anyL_done (by kernel_rfl) ?_ _
            go_wp2
            go_meet
            exact ⟨ny, nz, py, cy, pz, cz, rfl, rfl, M7_ny, M7_nz, N7_py, N7_pz, SD7, HD.out.trans (D7.mono HD.out.size)⟩
        · rw [if_pos (by rfl)]
          unfold mqC9
          go_simp
          obtain ⟨V3, hV3⟩ : ∃ V, V = V2.alloc (.cells #[.slice none 0 0, .string ⟨#[]⟩, .string ⟨#[]⟩, .string ⟨#[]⟩, .int .i64 0, .slice none 0 0] 30) := ⟨_, rfl⟩
          obtain ⟨nz, hnz⟩ : ∃ n, n = V2.heap.size := ⟨_, rfl⟩
          have bb : Below V2.heap.size V2 V3 := by rw [hV3]; exact (Below.refl _ _).alloc (Nat.le_refl _) _
          have M3_nz : MBlk V3 nz #[.slice none 0 0, .string ⟨#[]⟩, .string ⟨#[]⟩, .string ⟨#[]⟩, .int .i64 0, .slice none 0 0] 30 := by rw [hV3, hnz]; exact heap_alloc_new _ _
          have N3_py := N2_py.below bb
          have U3_py : ∀ ad, py = some ad → 0 < Y.path.length → ad.block < V3.heap.size := fun ad h1 h2 => Nat.lt_of_lt_of_le (U2_py ad h1 h2) bb.size
          have F3 := F2.below bb
          have Ppynz : ∀ ad, py = some ad → 0 < Y.path.length → ad.block ≠ nz := fun ad h1 h2 => by have := U2_py ad h1 h2; omega
          have D3 : Below Wd.heap.size Wd V3 := D2.trans (bb.mono D2.size)
          have Gnz : Wd.heap.size ≤ nz := by rw [hnz]; exact D2.size
          have SD3 := HSI.out _ _ D3 SD0
          simp only [← hV3, ← hnz]
          refine hK _ _ SD3 ?_
          clear hK K' hV3 hnz bb D2 SD2 N2_py F2 U2_py
          try simp only [Act.put, List.setIfInBounds_toArray, List.set_cons_zero, List.set_cons_succ]
          refine anyL_ready (rs := [7, 8]) (by kernel_rfl) (by simp) ?_
          refine AllL.cons (o := mqC7) rfl (fun K' hK => ?_) (AllL.cons (o := mqC8) rfl (fun K' hK => ?_) AllL.nil)
          · rw [if_pos (by rfl)]
            unfold mqC7
            go_simp
            go_at_call 14
            refine (qk5.out _ _ (qup.out _ (HD.out.trans (D3.mono HD.out.size))) F3).mono ?_
            rintro e4 V4 ⟨pz, cz, rfl, ho, bb⟩
            have M4_nz := M3_nz.more bb
            have N4_py := N3_py.below bb
            have U4_py : ∀ ad, py = some ad → 0 < Y.path.length → ad.block < V4.heap.size := fun ad h1 h2 => Nat.lt_of_lt_of_le (U3_py ad h1 h2) bb.size
            have F4 := F3.below bb
            have N4_pz := mq_nam ho
            have hrow := mq_row ho
            have U4_pz : ∀ ad, pz = some ad → 0 < Y.path.length → ad.block < V4.heap.size := fun ad h1 h2 => (hrow ad h1 h2).2
            have Ppznz : ∀ ad, pz = some ad → 0 < Y.path.length → ad.block ≠ nz := fun ad h1 h2 => by have := (hrow ad h1 h2).1; have := M3_nz.lt; omega
            have D4 : Below Wd.heap.size Wd V4 := D3.trans (bb.mono D3.size)
            have SD4 := HSI.out _ _ D4 SD0
            refine hK _ _ SD4 ?_
            clear hK K' bb ho hrow D3 SD3 M3_nz N3_py F3 U3_py
            try simp only [Act.put, List.setIfInBounds_toArray, List.set_cons_zero, List.set_cons_succ]
            refine anyL_ready (rs := [8]) (by kernel_rfl) (by simp) ?_
            refine AllL.cons (o := mqC8) rfl (fun K' hK => ?_) AllL.nil
            rw [if_pos (by rfl)]
            unfold mqC8
            go_simp
            obtain ⟨V5, hV5⟩ : ∃ V, V = V4.alloc (.cells #[.slice none 0 0, .string ⟨#[]⟩, .string ⟨#[]⟩, .string ⟨#[]⟩, .int .i64 0, .slice none 0 0] 30) := ⟨_, rfl⟩
            obtain ⟨ny, hny⟩ : ∃ n, n = V4.heap.size := ⟨_, rfl⟩
            have bb : Below V4.heap.size V4 V5 := by rw [hV5]; exact (Below.refl _ _).alloc (Nat.le_refl _) _
            have M5_ny : MBlk V5 ny #[.slice none 0 0, .string ⟨#[]⟩, .string ⟨#[]⟩, .string ⟨#[]⟩, .int .i64 0, .slice none 0 0] 30 := by rw [hV5, hny]; exact heap_alloc_new _ _
            have M5_nz := M4_nz.more bb
            have N5_py := N4_py.below bb
            have U5_py : ∀ ad, py = some ad → 0 < Y.path.length → ad.block < V5.heap.size := fun ad h1 h2 => Nat.lt_of_lt_of_le (U4_py ad h1 h2) bb.size
            have N5_pz := N4_pz.below bb
            have U5_pz : ∀ ad, pz = some ad → 0 < Y.path.length → ad.block < V5.heap.size := fun ad h1 h2 => Nat.lt_of_lt_of_le (U4_pz ad h1 h2) bb.size
            have F5 := F4.below bb
            have Qnzny : nz ≠ ny := by have := M4_nz.lt; omega
            have Ppyny : ∀ ad, py = some ad → 0 < Y.path.length → ad.block ≠ ny := fun ad h1 h2 => by have := U4_py ad h1 h2; omega
            have Ppzny : ∀ ad, pz = some ad → 0 < Y.path.length → ad.block ≠ ny := fun ad h1 h2 => by have := U4_pz ad h1 h2; omega
            have D5 : Below Wd.heap.size Wd V5 := D4.trans (bb.mono D4.size)
            have Gny : Wd.heap.size ≤ ny := by rw [hny]; exact D4.size
            have SD5 := HSI.out _ _ D5 SD0
            simp only [← hV5, ← hny]
            refine hK _ _ SD5 ?_
            clear hK K' hV5 hny bb D4 SD4 M4_nz N4_py N4_pz F4 U4_py U4_pz
            try simp only [Act.put, List.setIfInBounds_toArray, List.set_cons_zero, List.set_cons_succ]
            refine anyL_ready (rs := [10]) (by kernel_rfl) (by simp) ?_
            refine AllL.cons (o := mqC10) rfl (fun K' hK => ?_) AllL.nil
            rw [if_pos (by rfl)]
            unfold mqC10
            have r0 := M5_ny.cell 0
            have t0 := M5_ny.fr 0
            have r1 := M5_ny.cell 1
            have t1 := M5_ny.fr 1
            have r2 := M5_ny.cell 2
            have t2 := M5_ny.fr 2
            have r3 := M5_ny.cell 3
            have t3 := M5_ny.fr 3
            have r4 := M5_ny.cell 4
            have t4 := M5_ny.fr 4
            have r5 := M5_ny.cell 5
            have t5 := M5_ny.fr 5
            simp only [List.getElem?_toArray, List.getElem?_cons_zero, List.getElem?_cons_succ] at r0 r1 r2 r3 r4 r5
            go_simp
            obtain ⟨V6, hV6⟩ : ∃ V, V = ((((((V5.setCell ⟨ny, 0, none⟩ (.slice py Y.path.length cy)).setCell ⟨ny, 1, none⟩ (.string Y.id)).setCell ⟨ny, 2, none⟩ (.string Y.title)).setCell ⟨ny, 3, none⟩ (.string Y.link)).setCell ⟨ny, 4, none⟩ (.int .i64 Y.upd)).setCell ⟨ny, 5, none⟩ (.slice none 0 0)) := ⟨_, rfl⟩
            have M6_ny : MBlk V6 ny #[.slice py Y.path.length cy, .string Y.id, .string Y.title, .string Y.link, .int .i64 Y.upd, .slice none 0 0] 30 := by rw [hV6]; exact mblk_set6 M5_ny _ _ _ _ _ _
            have M6_nz := (show MBlk V6 nz _ _ by rw [hV6]; exact mq_far6 M5_nz (by first | exact Qnzny | exact fun e => Qnynz e.symm) _ _ _ _ _ _)
            have N6_py : NamAt V6 py Y.path := by rw [hV6]; exact mq_namfar6 N5_py Ppyny _ _ _ _ _ _
            have N6_pz : NamAt V6 pz Y.path := by rw [hV6]; exact mq_namfar6 N5_pz Ppzny _ _ _ _ _ _
            have D6 : Below Wd.heap.size Wd V6 := by rw [hV6]; exact mq_belowset6 D5 Gny _ _ _ _ _ _
            have SD6 := HSI.out _ _ D6 SD0
            simp only [← hV6]
            refine hK _ _ SD6 ?_
            clear hK K' hV6 D5 SD5 M5_ny M5_nz N5_py N5_pz r0 t0 r1 t1 r2 t2 r3 t3 r4 t4 r5 t5
            try simp only [Act.put, List.setIfInBounds_toArray, List.set_cons_zero, List.set_cons_succ]
            refine anyL_ready (rs := [11]) (by kernel_rfl) (by simp) ?_
            refine AllL.cons (o := mqC11) rfl (fun K' hK => ?_) AllL.nil
            rw [if_pos (by rfl)]
            unfold mqC11
            have r0 := M6_nz.cell 0
            have t0 := M6_nz.fr 0
            have r1 := M6_nz.cell 1
            have t1 := M6_nz.fr 1
            have r2 := M6_nz.cell 2
            have t2 := M6_nz.fr 2
            have r3 := M6_nz.cell 3
            have t3 := M6_nz.fr 3
            have r4 := M6_nz.cell 4
            have t4 := M6_nz.fr 4
            have r5 := M6_nz.cell 5
            have t5 := M6_nz.fr 5
            simp only [List.getElem?_toArray, List.getElem?_cons_zero, List.getElem?_cons_succ] at r0 r1 r2 r3 r4 r5
            go_simp
            obtain ⟨V7, hV7⟩ : ∃ V, V = ((((((V6.setCell ⟨nz, 0, none⟩ (.slice pz Y.path.length cz)).setCell ⟨nz, 1, none⟩ (.string Y.id)).setCell ⟨nz, 2, none⟩ (.string Y.title)).setCell ⟨nz, 3, none⟩ (.string Y.link)).setCell ⟨nz, 4, none⟩ (.int .i64 Y.upd)).setCell ⟨nz, 5, none⟩ (.slice none 0 0)) := ⟨_, rfl⟩
            have M7_nz : MBlk V7 nz #[.slice pz Y.path.length cz, .string Y.id, .string Y.title, .string Y.link, .int .i64 Y.upd, .slice none 0 0] 30 := by rw [hV7]; exact mblk_set6 M6_nz _ _ _ _ _ _
            have M7_ny := (show MBlk V7 ny _ _ by rw [hV7]; exact mq_far6 M6_ny (by first | exact Qnynz | exact fun e => Qnzny e.symm) _ _ _ _ _ _)
            have N7_py : NamAt V7 py Y.path := by rw [hV7]; exact mq_namfar6 N6_py Ppynz _ _ _ _ _ _
            have N7_pz : NamAt V7 pz Y.path := by rw [hV7]; exact mq_namfar6 N6_pz Ppznz _ _ _ _ _ _
            have D7 : Below Wd.heap.size Wd V7 := by rw [hV7]; exact mq_belowset6 D6 Gnz _ _ _ _ _ _
            have SD7 := HSI.out _ _ D7 SD0
            simp only [← hV7]
            refine hK _ _ SD7 ?_
            clear hK K' hV7 D6 SD6 M6_ny M6_nz N6_py N6_pz r0 t0 r1 t1 r2 t2 r3 t3 r4 t4 r5 t5
            try simp only [Act.put, List.setIfInBounds_toArray, List.set_cons_zero, List.set_cons_succ]
            refine anyL_done (by kernel_rfl) ?_ _
            go_wp2
            go_meet
            exact ⟨ny, nz, py, cy, pz, cz, rfl, rfl, M7_ny, M7_nz, N7_py, N7_pz, SD7, HD.out.trans (D7.mono HD.out.size)⟩
          · rw [if_pos (by rfl)]
            unfold mqC8
            go_simp
            obtain ⟨V4, hV4⟩ : ∃ V, V = V3.alloc (.cells #[.slice none 0 0, .string ⟨#[]⟩, .string ⟨#[]⟩, .string ⟨#[]⟩, .int .i64 0, .slice none 0 0] 30) := ⟨_, rfl⟩
            obtain ⟨ny, hny⟩ : ∃ n, n = V3.heap.size := ⟨_, rfl⟩
            have bb : Below V3.heap.size V3 V4 := by rw [hV4]; exact (Below.refl _ _).alloc (Nat.le_refl _) _
            have M4_ny : MBlk V4 ny #[.slice none 0 0, .string ⟨#[]⟩, .string ⟨#[]⟩, .string ⟨#[]⟩, .int .i64 0, .slice none 0 0] 30 := by rw [hV4, hny]; exact heap_alloc_new _ _
            have M4_nz := M3_nz.more bb
            have N4_py := N3_py.below bb
            have U4_py : ∀ ad, py = some ad → 0 < Y.path.length → ad.block < V4.heap.size := fun ad h1 h2 => Nat.lt_of_lt_of_le (U3_py ad h1 h2) bb.size
            have F4 := F3.below bb
            have Qnzny : nz ≠ ny := by have := M3_nz.lt; omega
            have Ppyny : ∀ ad, py = some ad → 0 < Y.path.length → ad.block ≠ ny := fun ad h1 h2 => by have := U3_py ad h1 h2; omega
            have D4 : Below Wd.heap.size Wd V4 := D3.trans (bb.mono D3.size)
            have Gny : Wd.heap.size ≤ ny := by rw [hny]; exact D3.size
            have SD4 := HSI.out _ _ D4 SD0
            simp only [← hV4, ← hny]
            refine hK _ _ SD4 ?_
            clear hK K' hV4 hny bb D3 SD3 M3_nz N3_py F3 U3_py
            try simp only [Act.put, List.setIfInBounds_toArray, List.set_cons_zero, List.set_cons_succ]
            refine anyL_ready (rs := [7]) (by kernel_rfl) (by simp) ?_
            refine AllL.cons (o := mqC7) rfl (fun K' hK => ?_) AllL.nil
            rw [if_pos (by rfl)]
            unfold mqC7
            go_simp
            go_at_call 14
            refine (qk5.out _ _ (qup.out _ (HD.out.trans (D4.mono HD.out.size))) F4).mono ?_
            rintro e5 V5 ⟨pz, cz, rfl, ho, bb⟩
            have M5_nz := M4_nz.more bb
            have M5_ny := M4_ny.more bb
            have N5_py := N4_py.below bb
            have U5_py : ∀ ad, py = some ad → 0 < Y.path.length → ad.block < V5.heap.size := fun ad h1 h2 => Nat.lt_of_lt_of_le (U4_py ad h1 h2) bb.size
            have F5 := F4.below bb
            have N5_pz := mq_nam ho
            have hrow := mq_row ho
            have U5_pz : ∀ ad, pz = some ad → 0 < Y.path.length → ad.block < V5.heap.size := fun ad h1 h2 => (hrow ad h1 h2).2
            have Ppznz : ∀ ad, pz = some ad → 0 < Y.path.length → ad.block ≠ nz := fun ad h1 h2 => by have := (hrow ad h1 h2).1; have := M4_nz.lt; omega
            have Ppzny : ∀ ad, pz = some ad → 0 < Y.path.length → ad.block ≠ ny := fun ad h1 h2 => by have := (hrow ad h1 h2).1; have := M4_ny.lt; omega
            have D5 : Below Wd.heap.size Wd V5 := D4.trans (bb.mono D4.size)
            have SD5 := HSI.out _ _ D5 SD0
            refine hK _ _ SD5 ?_
            clear hK K' bb ho hrow D4 SD4 M4_nz M4_ny N4_py F4 U4_py
            try simp only [Act.put, List.setIfInBounds_toArray, List.set_cons_zero, List.set_cons_succ]
            refine anyL_ready (rs := [10]) (by kernel_rfl) (by simp) ?_
            refine AllL.cons (o := mqC10) rfl (fun K' hK => ?_) AllL.nil
            rw [if_pos (by rfl)]
            unfold mqC10
            have r0 := M5_ny.cell 0
            have t0 := M5_ny.fr 0
            have r1 := M5_ny.cell 1
            have t1 := M5_ny.fr 1
            have r2 := M5_ny.cell 2
            have t2 := M5_ny.fr 2
            have r3 := M5_ny.cell 3
            have t3 := M5_ny.fr 3
            have r4 := M5_ny.cell 4
            have t4 := M5_ny.fr 4
            have r5 := M5_ny.cell 5
            have t5 := M5_ny.fr 5
            simp only [List.getElem?_toArray, List.getElem?_cons_zero, List.getElem?_cons_succ] at r0 r1 r2 r3 r4 r5
            go_simp
            obtain ⟨V6, hV6⟩ : ∃ V, V = ((((((V5.setCell ⟨ny, 0, none⟩ (.slice py Y.path.length cy)).setCell ⟨ny, 1, none⟩ (.string Y.id)).setCell ⟨ny, 2, none⟩ (.string Y.title)).setCell ⟨ny, 3, none⟩ (.string Y.link)).setCell ⟨ny, 4, none⟩ (.int .i64 Y.upd)).setCell ⟨ny, 5, none⟩ (.slice none 0 0)) := ⟨_, rfl⟩
            have M6_ny : MBlk V6 ny #[.slice py Y.path.length cy, .string Y.id, .string Y.title, .string Y.link, .int .i64 Y.upd, .slice none 0 0] 30 := by rw [hV6]; exact mblk_set6 M5_ny _ _ _ _ _ _
            have M6_nz := (show MBlk V6 nz _ _ by rw [hV6]; exact mq_far6 M5_nz (by first | exact Qnzny | exact fun e => Qnynz e.symm) _ _ _ _ _ _)
            have N6_py : NamAt V6 py Y.path := by rw [hV6]; exact mq_namfar6 N5_py Ppyny _ _ _ _ _ _
            have N6_pz : NamAt V6 pz Y.path := by rw [hV6]; exact mq_namfar6 N5_pz Ppzny _ _ _ _ _ _
            have D6 : Below Wd.heap.size Wd V6 := by rw [hV6]; exact mq_belowset6 D5 Gny _ _ _ _ _ _
            have SD6 := HSI.out _ _ D6 SD0
            simp only [← hV6]
            refine hK _ _ SD6 ?_
            clear hK K' hV6 D5 SD5 M5_ny M5_nz N5_py N5_pz r0 t0 r1 t1 r2 t2 r3 t3 r4 t4 r5 t5
            try simp only [Act.put, List.setIfInBounds_toArray, List.set_cons_zero, List.set_cons_succ]
            refine anyL_ready (rs := [11]) (by kernel_rfl) (by simp) ?_
            refine AllL.cons (o := mqC11) rfl (fun K' hK => ?_) AllL.nil
            rw [if_pos (by rfl)]
            unfold mqC11
            have r0 := M6_nz.cell 0
            have t0 := M6_nz.fr 0
            have r1 := M6_nz.cell 1
            have t1 := M6_nz.fr 1
            have r2 := M6_nz.cell 2
            have t2 := M6_nz.fr 2
            have r3 := M6_nz.cell 3
            have t3 := M6_nz.fr 3
            have r4 := M6_nz.cell 4
            have t4 := M6_nz.fr 4
            have r5 := M6_nz.cell 5
            have t5 := M6_nz.fr 5
            simp only [List.getElem?_toArray, List.getElem?_cons_zero, List.getElem?_cons_succ] at r0 r1 r2 r3 r4 r5
            go_simp
            obtain ⟨V7, hV7⟩ : ∃ V, V = ((((((V6.setCell ⟨nz, 0, none⟩ (.slice pz Y.path.length cz)).setCell ⟨nz, 1, none⟩ (.string Y.id)).setCell ⟨nz, 2, none⟩ (.string Y.title)).setCell ⟨nz, 3, none⟩ (.string Y.link)).setCell ⟨nz, 4, none⟩ (.int .i64 Y.upd)).setCell ⟨nz, 5, none⟩ (.slice none 0 0)) := ⟨_, rfl⟩
            have M7_nz : MBlk V7 nz #[.slice pz Y.path.length cz, .string Y.id, .string Y.title, .string Y.link, .int .i64 Y.upd, .slice none 0 0] 30 := by rw [hV7]; exact mblk_set6 M6_nz _ _ _ _ _ _
            have M7_ny := (show MBlk V7 ny _ _ by rw [hV7]; exact mq_far6 M6_ny (by first | exact Qnynz | exact fun e => Qnzny e.symm) _ _ _ _ _ _)
            have N7_py : NamAt V7 py Y.path := by rw [hV7]; exact mq_namfar6 N6_py Ppynz _ _ _ _ _ _
            have N7_pz : NamAt V7 pz Y.path := by rw [hV7]; exact mq_namfar6 N6_pz Ppznz _ _ _ _ _ _
            have D7 : Below Wd.heap.size Wd V7 := by rw [hV7]; exact mq_belowset6 D6 Gnz _ _ _ _ _ _
            have SD7 := HSI.out _ _ D7 SD0
            simp only [← hV7]
            refine hK _ _ SD7 ?_
            clear hK K' hV7 D6 SD6 M6_ny M6_nz N6_py N6_pz r0 t0 r1 t1 r2 t2 r3 t3 r4 t4 r5 t5
            try simp only [Act.put, List.setIfInBounds_toArray, List.set_cons_zero, List.set_cons_succ]
            refine anyL_done (by kernel_rfl) ?_ _
            go_wp2
            go_meet
            exact ⟨ny, nz, py, cy, pz, cz, rfl, rfl, M7_ny, M7_nz, N7_py, N7_pz, SD7, HD.out.trans (D7.mono HD.out.size)⟩
      · rw [if_pos (by rfl)]
        unfold mqC8
        go_simp
        obtain ⟨V2, hV2⟩ : ∃ V, V = V1.alloc (.cells #[.slice none 0 0, .string ⟨#[]⟩, .string ⟨#[]⟩, .string ⟨#[]⟩, .int .i64 0, .slice none 0 0] 30) := ⟨_, rfl⟩
        obtain ⟨ny, hny⟩ : ∃ n, n = V1.heap.size := ⟨_, rfl⟩
        have bb : Below V1.heap.size V1 V2 := by rw [hV2]; exact (Below.refl _ _).alloc (Nat.le_refl _) _
        have M2_ny : MBlk V2 ny #[.slice none 0 0, .string ⟨#[]⟩, .string ⟨#[]⟩, .string ⟨#[]⟩, .int .i64 0, .slice none 0 0] 30 := by rw [hV2, hny]; exact heap_alloc_new _ _
        have N2_py := N1_py.below bb
        have U2_py : ∀ ad, py = some ad → 0 < Y.path.length → ad.block < V2.heap.size := fun ad h1 h2 => Nat.lt_of_lt_of_le (U1_py ad h1 h2) bb.size
        have Ppyny : ∀ ad, py = some ad → 0 < Y.path.length → ad.block ≠ ny := fun ad h1 h2 => by have := U1_py ad h1 h2; omega
        have D2 : Below Wd.heap.size Wd V2 := D1.trans (bb.mono D1.size)
        have Gny : Wd.heap.size ≤ ny := by rw [hny]; exact D1.size
        have SD2 := HSI.out _ _ D2 SD0
        simp only [← hV2, ← hny]
        refine hK _ _ SD2 ?_
        clear hK K' hV2 hny bb D1 SD1 N1_py U1_py
        try simp only [Act.put, List.setIfInBounds_toArray, List.set_cons_zero, List.set_cons_succ]
        refine anyL_ready (rs := [6, 9]) (by kernel_rfl) (by simp) ?_
        refine AllL.cons (o := mqC6) rfl (fun K' hK => ?_) (AllL.cons (o := mqC9) rfl (fun K' hK => ?_) AllL.nil)
        · rw [if_pos (by rfl)]
          unfold mqC6
          go_simp
          go_at_call 14
          refine (qk4.out _ (qup.out _ (HD.out.trans (D2.mono HD.out.size)))).mono ?_
          rintro e3 V3 ⟨pb, cb, rfl, ho, bb⟩
          have M3_ny := M2_ny.more bb
          have N3_py := N2_py.below bb
          have U3_py : ∀ ad, py = some ad → 0 < Y.path.length → ad.block < V3.heap.size := fun ad h1 h2 => Nat.lt_of_lt_of_le (U2_py ad h1 h2) bb.size
          have F3 := later_is ho qBe.out
          have D3 : Below Wd.heap.size Wd V3 := D2.trans (bb.mono D2.size)
          have SD3 := HSI.out _ _ D3 SD0
          refine hK _ _ SD3 ?_
          clear hK K' bb ho  D2 SD2 M2_ny N2_py U2_py
          try simp only [Act.put, List.setIfInBounds_toArray, List.set_cons_zero, List.set_cons_succ]
          refine anyL_ready (rs := [7, 9]) (by kernel_rfl) (by simp) ?_
          refine AllL.cons (o := mqC7) rfl (fun K' hK => ?_) (AllL.cons (o := mqC9) rfl (fun K' hK => ?_) AllL.nil)
          · rw [if_pos (by rfl)]
            unfold mqC7
            go_simp
            go_at_call 14
            refine (qk5.out _ _ (qup.out _ (HD.out.trans (D3.mono HD.out.size))) F3).mono ?_
            rintro e4 V4 ⟨pz, cz, rfl, ho, bb⟩
            have M4_ny := M3_ny.more bb
            have N4_py := N3_py.below bb
            have U4_py : ∀ ad, py = some ad → 0 < Y.path.length → ad.block < V4.heap.size := fun ad h1 h2 => Nat.lt_of_lt_of_le (U3_py ad h1 h2) bb.size
            have F4 := F3.below bb
            have N4_pz := mq_nam ho
            have hrow := mq_row ho
            have U4_pz : ∀ ad, pz = some ad → 0 < Y.path.length → ad.block < V4.heap.size := fun ad h1 h2 => (hrow ad h1 h2).2
            have Ppzny : ∀ ad, pz = some ad → 0 < Y.path.length → ad.block ≠ ny := fun ad h1 h2 => by have := (hrow ad h1 h2).1; have := M3_ny.lt; omega
            have D4 : Below Wd.heap.size Wd V4 := D3.trans (bb.mono D3.size)
            have SD4 := HSI.out _ _ D4 SD0
            refine hK _ _ SD4 ?_
            clear hK K' bb ho hrow D3 SD3 M3_ny N3_py F3 U3_py
            try simp only [Act.put, List.setIfInBounds_toArray, List.set_cons_zero, List.set_cons_succ]
            refine anyL_ready (rs := [9]) (by kernel_rfl) (by simp) ?_
            refine AllL.cons (o := mqC9) rfl (fun K' hK => ?_) AllL.nil
            rw [if_pos (by rfl)]
            unfold mqC9
            go_simp
            obtain ⟨V5, hV5⟩ : ∃ V, V = V4.alloc (.cells #[.slice none 0 0, .string ⟨#[]⟩, .string ⟨#[]⟩, .string ⟨#[]⟩, .int .i64 0, .slice none 0 0] 30) := ⟨_, rfl⟩
            obtain ⟨nz, hnz⟩ : ∃ n, n = V4.heap.size := ⟨_, rfl⟩
            have bb : Below V4.heap.size V4 V5 := by rw [hV5]; exact (Below.refl _ _).alloc (Nat.le_refl _) _
            have M5_nz : MBlk V5 nz #[.slice none 0 0, .string ⟨#[]⟩, .string ⟨#[]⟩, .string ⟨#[]⟩, .int .i64 0, .slice none 0 0] 30 := by rw [hV5, hnz]; exact heap_alloc_new _ _
            have M5_ny := M4_ny.more bb
            have N5_py := N4_py.below bb
            have U5_py : ∀ ad, py = some ad → 0 < Y.path.length → ad.block < V5.heap.size := fun ad h1 h2 => Nat.lt_of_lt_of_le (U4_py ad h1 h2) bb.size
            have N5_pz := N4_pz.below bb
            have U5_pz : ∀ ad, pz = some ad → 0 < Y.path.length → ad.block < V5.heap.size := fun ad h1 h2 => Nat.lt_of_lt_of_le (U4_pz ad h1 h2) bb.size
            have F5 := F4.below bb
            have Qnynz : ny ≠ nz := by have := M4_ny.lt; omega
            have Ppynz : ∀ ad, py = some ad → 0 < Y.path.length → ad.block ≠ nz := fun ad h1 h2 => by have := U4_py ad h1 h2; omega
            have Ppznz : ∀ ad, pz = some ad → 0 < Y.path.length → ad.block ≠ nz := fun ad h1 h2 => by have := U4_pz ad h1 h2; omega
            have D5 : Below Wd.heap.size Wd V5 := D4.trans (bb.mono D4.size)
            have Gnz : Wd.heap.size ≤ nz := by rw [hnz]; exact D4.size
            have SD5 := HSI.out _ _ D5 SD0
            simp only [← hV5, ← hnz]
            refine hK _ _ SD5 ?_
            clear hK K' hV5 hnz bb D4 SD4 M4_ny N4_py N4_pz F4 U4_py U4_pz
            try simp only [Act.put, List.setIfInBounds_toArray, List.set_cons_zero, List.set_cons_succ]
            refine anyL_ready (rs := [10]) (by kernel_rfl) (by simp) ?_
            refine AllL.cons (o := mqC10) rfl (fun K' hK => ?_) AllL.nil
            rw [if_pos (by rfl)]
            unfold mqC10
            have r0 := M5_ny.cell 0
            have t0 := M5_ny.fr 0
            have r1 := M5_ny.cell 1
            have t1 := M5_ny.fr 1
            have r2 := M5_ny.cell 2
            have t2 := M5_ny.fr 2
            have r3 := M5_ny.cell 3
            have t3 := M5_ny.fr 3
            have r4 := M5_ny.cell 4
            have t4 := M5_ny.fr 4
            have r5 := M5_ny.cell 5
            have t5 := M5_ny.fr 5
            simp only [List.getElem?_toArray, List.getElem?_cons_zero, List.getElem?_cons_succ] at r0 r1 r2 r3 r4 r5
            go_simp
            obtain ⟨V6, hV6⟩ : ∃ V, V = ((((((V5.setCell ⟨ny, 0, none⟩ (.slice py Y.path.length cy)).setCell ⟨ny, 1, none⟩ (.string Y.id)).setCell ⟨ny, 2, none⟩ (.string Y.title)).setCell ⟨ny, 3, none⟩ (.string Y.link)).setCell ⟨ny, 4, none⟩ (.int .i64 Y.upd)).setCell ⟨ny, 5, none⟩ (.slice none 0 0)) := ⟨_, rfl⟩
            have M6_ny : MBlk V6 ny #[.slice py Y.path.length cy, .string Y.id, .string Y.title, .string Y.link, .int .i64 Y.upd, .slice none 0 0] 30 := by rw [hV6]; exact mblk_set6 M5_ny _ _ _ _ _ _
            have M6_nz := (show MBlk V6 nz _ _ by rw [hV6]; exact mq_far6 M5_nz (by first | exact Qnzny | exact fun e => Qnynz e.symm) _ _ _ _ _ _)
            have N6_py : NamAt V6 py Y.path := by rw [hV6]; exact mq_namfar6 N5_py Ppyny _ _ _ _ _ _
            have N6_pz : NamAt V6 pz Y.path := by rw [hV6]; exact mq_namfar6 N5_pz Ppzny _ _ _ _ _ _
            have D6 : Below Wd.heap.size Wd V6 := by rw [hV6]; exact mq_belowset6 D5 Gny _ _ _ _ _ _
            have SD6 := HSI.out _ _ D6 SD0
            simp only [← hV6]
            refine hK _ _ SD6 ?_
            clear hK K' hV6 D5 SD5 M5_ny M5_nz N5_py N5_pz r0 t0 r1 t1 r2 t2 r3 t3 r4 t4 r5 t5
            try simp only [Act.put, List.setIfInBounds_toArray, List.set_cons_zero, List.set_cons_succ]
            refine anyL_ready (rs := [11]) (by kernel_rfl) (by simp) ?_
            refine AllL.cons (o := mqC11) rfl (fun K' hK => ?_) AllL.nil
            rw [if_pos (by rfl)]
            unfold mqC11
            have r0 := M6_nz.cell 0
            have t0 := M6_nz.fr 0
            have r1 := M6_nz.cell 1
            have t1 := M6_nz.fr 1
            have r2 := M6_nz.cell 2
            have t2 := M6_nz.fr 2
            have r3 := M6_nz.cell 3
            have t3 := M6_nz.fr 3
            have r4 := M6_nz.cell 4
            have t4 := M6_nz.fr 4
            have r5 := M6_nz.cell 5
            have t5 := M6_nz.fr 5
            simp only [List.getElem?_toArray, List.getElem?_cons_zero, List.getElem?_cons_succ] at r0 r1 r2 r3 r4 r5
            go_simp
            obtain ⟨V7, hV7⟩ : ∃ V, V = ((((((V6.setCell ⟨nz, 0, none⟩ (.slice pz Y.path.length cz)).setCell ⟨nz, 1, none⟩ (.string Y.id)).setCell ⟨nz, 2, none⟩ (.string Y.title)).setCell ⟨nz, 3, none⟩ (.string Y.link)).setCell ⟨nz, 4, none⟩ (.int .i64 Y.upd)).setCell ⟨nz, 5, none⟩ (.slice none 0 0)) := ⟨_, rfl⟩
            have M7_nz : MBlk V7 nz #[.slice pz Y.path.length cz, .string Y.id, .string Y.title, .string Y.link, .int .i64 Y.upd, .slice none 0 0] 30 := by rw [hV7]; exact mblk_set6 M6_nz _ _ _ _ _ _
            have M7_ny := (show MBlk V7 ny _ _ by rw [hV7]; exact mq_far6 M6_ny (by first | exact Qnynz | exact fun e => Qnzny e.symm) _ _ _ _ _ _)
            have N7_py : NamAt V7 py Y.path := by rw [hV7]; exact mq_namfar6 N6_py Ppynz _ _ _ _ _ _
            have N7_pz : NamAt V7 pz Y.path := by rw [hV7]; exact mq_namfar6 N6_pz Ppznz _ _ _ _ _ _
            have D7 : Below Wd.heap.size Wd V7 := by rw [hV7]; exact mq_belowset6 D6 Gnz _ _ _ _ _ _
            have SD7 := HSI.out _ _ D7 SD0
            simp only [← hV7]
            refine hK _ _ SD7 ?_
            clear hK K' hV7 D6 SD6 M6_ny M6_nz N6_py N6_pz r0 t0 r1 t1 r2 t2 r3 t3 r4 t4 r5 t5
            try simp only [Act.put, List.setIfInBounds_toArray, List.set_cons_zero, List.set_cons_succ]
            refine anyL_done (by kernel_rfl) ?_ _
            go_wp2
            go_meet
            exact ⟨ny, nz, py, cy, pz, cz, rfl, rfl, M7_ny, M7_nz, N7_py, N7_pz, SD7, HD.out.trans (D7.mono HD.out.size)⟩
          · rw [if_pos (by rfl)]
            unfold mqC9
            go_simp
            obtain ⟨V4, hV4⟩ : ∃ V, V = V3.alloc (.cells #[.slice none 0 0, .string ⟨#[]⟩, .string ⟨#[]⟩, .string ⟨#[]⟩, .int .i64 0, .slice none 0 0] 30) := ⟨_, rfl⟩
            obtain ⟨nz, hnz⟩ : ∃ n, n = V3.heap.size := ⟨_, rfl⟩
            have bb : Below V3.heap.size V3 V4 := by rw [hV4]; exact (Below.refl _ _).alloc (Nat.le_refl _) _
            have M4_nz : MBlk V4 nz #[.slice none 0 0, .string ⟨#[]⟩, .string ⟨#[]⟩, .string ⟨#[]⟩, .int .i64 0, .slice none 0 0] 30 := by rw [hV4, hnz]; exact heap_alloc_new _ _
            have M4_ny := M3_ny.more bb
            have N4_py := N3_py.below bb
            have U4_py : ∀ ad, py = some ad → 0 < Y.path.length → ad.block < V4.heap.size := fun ad h1 h2 => Nat.lt_of_lt_of_le (U3_py ad h1 h2) bb.size
            have F4 := F3.below bb
            have Qnynz : ny ≠ nz := by have := M3_ny.lt; omega
            have Ppynz : ∀ ad, py = some ad → 0 < Y.path.length → ad.block ≠ nz := fun ad h1 h2 => by have := U3_py ad h1 h2; omega
            have D4 : Below Wd.heap.size Wd V4 := D3.trans (bb.mono D3.size)
            have Gnz : Wd.heap.size ≤ nz := by rw [hnz]; exact D3.size
            have SD4 := HSI.out _ _ D4 SD0
            simp only [← hV4, ← hnz]
            refine hK _ _ SD4 ?_
            clear hK K' hV4 hnz bb D3 SD3 M3_ny N3_py F3 U3_py
            try simp only [Act.put, List.setIfInBounds_toArray, List.set_cons_zero, List.set_cons_succ]
            refine anyL_ready (rs := [7]) (by kernel_rfl) (by simp) ?_
            refine AllL.cons (o := mqC7) rfl (fun K' hK => ?_) AllL.nil
            rw [if_pos (by rfl)]
            unfold mqC7
            go_simp
            go_at_call 14
            refine (qk5.out _ _ (qup.out _ (HD.out.trans (D4.mono HD.out.size))) F4).mono ?_
            rintro e5 V5 ⟨pz, cz, rfl, ho, bb⟩
            have M5_ny := M4_ny.more bb
            have M5_nz := M4_nz.more bb
            have N5_py := N4_py.below bb
            have U5_py : ∀ ad, py = some ad → 0 < Y.path.length → ad.block < V5.heap.size := fun ad h1 h2 => Nat.lt_of_lt_of_le (U4_py ad h1 h2) bb.size
            have F5 := F4.below bb
            have N5_pz := mq_nam ho
            have hrow := mq_row ho
            have U5_pz : ∀ ad, pz = some ad → 0 < Y.path.length → ad.block < V5.heap.size := fun ad h1 h2 => (hrow ad h1 h2).2
            have Ppzny : ∀ ad, pz = some ad → 0 < Y.path.length → ad.block ≠ ny := fun ad h1 h2 => by have := (hrow ad h1 h2).1; have := M4_ny.lt; omega
            have Ppznz : ∀ ad, pz = some ad → 0 < Y.path.length → ad.block ≠ nz := fun ad h1 h2 => by have := (hrow ad h1 h2).1; have := M4_nz.lt; omega
            have D5 : Below Wd.heap.size Wd V5 := D4.trans (bb.mono D4.size)
            have SD5 := HSI.out _ _ D5 SD0
            refine hK _ _ SD5 ?_
            clear hK K' bb ho hrow D4 SD4 M4_ny M4_nz N4_py F4 U4_py
            try simp only [Act.put, List.setIfInBounds_toArray, List.set_cons_zero, List.set_cons_succ]
            refine anyL_ready (rs := [10]) (by kernel_rfl) (by simp) ?_
            refine AllL.cons (o := mqC10) rfl (fun K' hK => ?_) AllL.nil
            rw [if_pos (by rfl)]
            unfold mqC10
            have r0 := M5_ny.cell 0
            have t0 := M5_ny.fr 0
            have r1 := M5_ny.cell 1
            have t1 := M5_ny.fr 1
            have r2 := M5_ny.cell 2
            have t2 := M5_ny.fr 2
            have r3 := M5_ny.cell 3
            have t3 := M5_ny.fr 3
            have r4 := M5_ny.cell 4
            have t4 := M5_ny.fr 4
            have r5 := M5_ny.cell 5
            have t5 := M5_ny.fr 5
            simp only [List.getElem?_toArray, List.getElem?_cons_zero, List.getElem?_cons_succ] at r0 r1 r2 r3 r4 r5
            go_simp
            obtain ⟨V6, hV6⟩ : ∃ V, V = ((((((V5.setCell ⟨ny, 0, none⟩ (.slice py Y.path.length cy)).setCell ⟨ny, 1, none⟩ (.string Y.id)).setCell ⟨ny, 2, none⟩ (.string Y.title)).setCell ⟨ny, 3, none⟩ (.string Y.link)).setCell ⟨ny, 4, none⟩ (.int .i64 Y.upd)).setCell ⟨ny, 5, none⟩ (.slice none 0 0)) := ⟨_, rfl⟩
            have M6_ny : MBlk V6 ny #[.slice py Y.path.length cy, .string Y.id, .string Y.title, .string Y.link, .int .i64 Y.upd, .slice none 0 0] 30 := by rw [hV6]; exact mblk_set6 M5_ny _ _ _ _ _ _
            have M6_nz := (show MBlk V6 nz _ _ by rw [hV6]; exact mq_far6 M5_nz (by first | exact Qnzny | exact fun e => Qnynz e.symm) _ _ _ _ _ _)
            have N6_py : NamAt V6 py Y.path := by rw [hV6]; exact mq_namfar6 N5_py Ppyny _ _ _ _ _ _
            have N6_pz : NamAt V6 pz Y.path := by rw [hV6]; exact mq_namfar6 N5_pz Ppzny _ _ _ _ _ _
            have D6 : Below Wd.heap.size Wd V6 := by rw [hV6]; exact mq_belowset6 D5 Gny _ _ _ _ _ _
            have SD6 := HSI.out _ _ D6 SD0
            simp only [← hV6]
            refine hK _ _ SD6 ?_
            clear hK K' hV6 D5 SD5 M5_ny M5_nz N5_py N5_pz r0 t0 r1 t1 r2 t2 r3 t3 r4 t4 r5 t5
            try simp only [Act.put, List.setIfInBounds_toArray, List.set_cons_zero, List.set_cons_succ]
            refine anyL_ready (rs := [11]) (by kernel_rfl) (by simp) ?_
            refine AllL.cons (o := mqC11) rfl (fun K' hK => ?_) AllL.nil
            rw [if_pos (by rfl)]
            unfold mqC11
            have r0 := M6_nz.cell 0
            have t0 := M6_nz.fr 0
            have r1 := M6_nz.cell 1
            have t1 := M6_nz.fr 1
            have r2 := M6_nz.cell 2
            have t2 := M6_nz.fr 2
            have r3 := M6_nz.cell 3
            have t3 := M6_nz.fr 3
            have r4 := M6_nz.cell 4
            have t4 := M6_nz.fr 4
            have r5 := M6_nz.cell 5
            have t5 := M6_nz.fr 5
            simp only [List.getElem?_toArray, List.getElem?_cons_zero, List.getElem?_cons_succ] at r0 r1 r2 r3 r4 r5
            go_simp
            obtain ⟨V7, hV7⟩ : ∃ V, V = ((((((V6.setCell ⟨nz, 0, none⟩ (.slice pz Y.path.length cz)).setCell ⟨nz, 1, none⟩ (.string Y.id)).setCell ⟨nz, 2, none⟩ (.string Y.title)).setCell ⟨nz, 3, none⟩ (.string Y.link)).setCell ⟨nz, 4, none⟩ (.int .i64 Y.upd)).setCell ⟨nz, 5, none⟩ (.slice none 0 0)) := ⟨_, rfl⟩
            have M7_nz : MBlk V7 nz #[.slice pz Y.path.length cz, .string Y.id, .string Y.title, .string Y.link, .int .i64 Y.upd, .slice none 0 0] 30 := by rw [hV7]; exact mblk_set6 M6_nz _ _ _ _ _ _
            have M7_ny := (show MBlk V7 ny _ _ by rw [hV7]; exact mq_far6 M6_ny (by first | exact Qnynz | exact fun e => Qnzny e.symm) _ _ _ _ _ _)
            have N7_py : NamAt V7 py Y.path := by rw [hV7]; exact mq_namfar6 N6_py Ppynz _ _ _ _ _ _
            have N7_pz : NamAt V7 pz Y.path := by rw [hV7]; exact mq_namfar6 N6_pz Ppznz _ _ _ _ _ _
            have D7 : Below Wd.heap.size Wd V7 := by rw [hV7]; exact mq_belowset6 D6 Gnz _ _ _ _ _ _
            have SD7 := HSI.out _ _ D7 SD0
            simp only [← hV7]
            refine hK _ _ SD7 ?_
            clear hK K' hV7 D6 SD6 M6_ny M6_nz N6_py N6_pz r0 t0 r1 t1 r2 t2 r3 t3 r4 t4 r5 t5
            try simp only [Act.put, List.setIfInBounds_toArray, List.set_cons_zero, List.set_cons_succ]
            refine anyL_done (by kernel_rfl) ?_ _
            go_wp2
            go_meet
            exact ⟨ny, nz, py, cy, pz, cz, rfl, rfl, M7_ny, M7_nz, N7_py, N7_pz, SD7, HD.out.trans (D7.mono HD.out.size)⟩
        · rw [if_pos (by rfl)]
          unfold mqC9
          go_simp
          obtain ⟨V3, hV3⟩ : ∃ V, V = V2.alloc (.cells #[.slice none 0 0, .string ⟨#[]⟩, .string ⟨#[]⟩, .string ⟨#[]⟩, .int .i64 0, .slice none 0 0] 30) := ⟨_, rfl⟩
          obtain ⟨nz, hnz⟩ : ∃ n, n = V2.heap.size := ⟨_, rfl⟩
          have bb : Below V2.heap.size V2 V3 := by rw [hV3]; exact (Below.refl _ _).alloc (Nat.le_refl _) _
          have M3_nz : MBlk V3 nz #[.slice none 0 0, .string ⟨#[]⟩, .string ⟨#[]⟩, .string ⟨#[]⟩, .int .i64 0, .slice none 0 0] 30 := by rw [hV3, hnz]; exact heap_alloc_new _ _
          have M3_ny := M2_ny.more bb
          have N3_py := N2_py.below bb
          have U3_py : ∀ ad, py = some ad → 0 < Y.path.length → ad.block < V3.heap.size := fun ad h1 h2 => Nat.lt_of_lt_of_le (U2_py ad h1 h2) bb.size
          have Qnynz : ny ≠ nz := by have := M2_ny.lt; omega
          have Ppynz : ∀ ad, py = some ad → 0 < Y.path.length → ad.block ≠ nz := fun ad h1 h2 => by have := U2_py ad h1 h2; omega
          have D3 : Below Wd.heap.size Wd V3 := D2.trans (bb.mono D2.size)
          have Gnz : Wd.heap.size ≤ nz := by rw [hnz]; exact D2.size
          have SD3 := HSI.out _ _ D3 SD0
          simp only [← hV3, ← hnz]
          refine hK _ _ SD3 ?_
          clear hK K' hV3 hnz bb D2 SD2 M2_ny N2_py U2_py
          try simp only [Act.put, List.setIfInBounds_toArray, List.set_cons_zero, List.set_cons_succ]
          refine anyL_ready (rs := [6]) (by kernel_rfl) (by simp) ?_
          refine AllL.cons (o := mqC6) rfl (fun K' hK => ?_) AllL.nil
          rw [if_pos (by rfl)]
          unfold mqC6
          go_simp
          go_at_call 14
          refine (qk4.out _ (qup.out _ (HD.out.trans (D3.mono HD.out.size)))).mono ?_
          rintro e4 V4 ⟨pb, cb, rfl, ho, bb⟩
          have M4_ny := M3_ny.more bb
          have M4_nz := M3_nz.more bb
          have N4_py := N3_py.below bb
          have U4_py : ∀ ad, py = some ad → 0 < Y.path.length → ad.block < V4.heap.size := fun ad h1 h2 => Nat.lt_of_lt_of_le (U3_py ad h1 h2) bb.size
          have F4 := later_is ho qBe.out
          have D4 : Below Wd.heap.size Wd V4 := D3.trans (bb.mono D3.size)
          have SD4 := HSI.out _ _ D4 SD0
          refine hK _ _ SD4 ?_
          clear hK K' bb ho  D3 SD3 M3_ny M3_nz N3_py U3_py
          try simp only [Act.put, List.setIfInBounds_toArray, List.set_cons_zero, List.set_cons_succ]
          refine anyL_ready (rs := [7]) (by kernel_rfl) (by simp) ?_
          refine AllL.cons (o := mqC7) rfl (fun K' hK => ?_) AllL.nil
          rw [if_pos (by rfl)]
          unfold mqC7
          go_simp
          go_at_call 14
          refine (qk5.out _ _ (qup.out _ (HD.out.trans (D4.mono HD.out.size))) F4).mono ?_
          rintro e5 V5 ⟨pz, cz, rfl, ho, bb⟩
          have M5_ny := M4_ny.more bb
          have M5_nz := M4_nz.more bb
          have N5_py := N4_py.below bb
          have U5_py : ∀ ad, py = some ad → 0 < Y.path.length → ad.block < V5.heap.size := fun ad h1 h2 => Nat.lt_of_lt_of_le (U4_py ad h1 h2) bb.size
          have F5 := F4.below bb
          have N5_pz := mq_nam ho
          have hrow := mq_row ho
          have U5_pz : ∀ ad, pz = some ad → 0 < Y.path.length → ad.block < V5.heap.size := fun ad h1 h2 => (hrow ad h1 h2).2
          have Ppzny : ∀ ad, pz = some ad → 0 < Y.path.length → ad.block ≠ ny := fun ad h1 h2 => by have := (hrow ad h1 h2).1; have := M4_ny.lt; omega
          have Ppznz : ∀ ad, pz = some ad → 0 < Y.path.length → ad.block ≠ nz := fun ad h1 h2 => by have := (hrow ad h1 h2).1; have := M4_nz.lt; omega
          have D5 : Below Wd.heap.size Wd V5 := D4.trans (bb.mono D4.size)
          have SD5 := HSI.out _ _ D5 SD0
          refine hK _ _ SD5 ?_
          clear hK K' bb ho hrow D4 SD4 M4_ny M4_nz N4_py F4 U4_py
          try simp only [Act.put, List.setIfInBounds_toArray, List.set_cons_zero, List.set_cons_succ]
          refine anyL_ready (rs := [10]) (by kernel_rfl) (by simp) ?_
          refine AllL.cons (o := mqC10) rfl (fun K' hK => ?_) AllL.nil
          rw [if_pos (by rfl)]
          unfold mqC10
          have r0 := M5_ny.cell 0
          have t0 := M5_ny.fr 0
          have r1 := M5_ny.cell 1
          have t1 := M5_ny.fr 1
          have r2 := M5_ny.cell 2
          have t2 := M5_ny.fr 2
          have r3 := M5_ny.cell 3
          have t3 := M5_ny.fr 3
          have r4 := M5_ny.cell 4
          have t4 := M5_ny.fr 4
          have r5 := M5_ny.cell 5
          have t5 := M5_ny.fr 5
          simp only [List.getElem?_toArray, List.getElem?_cons_zero, List.getElem?_cons_succ] at r0 r1 r2 r3 r4 r5
          go_simp
          obtain ⟨V6, hV6⟩ : ∃ V, V = ((((((V5.setCell ⟨ny, 0, none⟩ (.slice py Y.path.length cy)).setCell ⟨ny, 1, none⟩ (.string Y.id)).setCell ⟨ny, 2, none⟩ (.string Y.title)).setCell ⟨ny, 3, none⟩ (.string Y.link)).setCell ⟨ny, 4, none⟩ (.int .i64 Y.upd)).setCell ⟨ny, 5, none⟩ (.slice none 0 0)) := ⟨_, rfl⟩
          have M6_ny : MBlk V6 ny #[.slice py Y.path.length cy, .string Y.id, .string Y.title, .string Y.link, .int .i64 Y.upd, .slice none 0 0] 30 := by rw [hV6]; exact mblk_set6 M5_ny _ _ _ _ _ _
          have M6_nz := (show MBlk V6 nz _ _ by rw [hV6]; exact mq_far6 M5_nz (by first | exact Qnzny | exact fun e => Qnynz e.symm) _ _ _ _ _ _)
          have N6_py : NamAt V6 py Y.path := by rw [hV6]; exact mq_namfar6 N5_py Ppyny _ _ _ _ _ _
          have N6_pz : NamAt V6 pz Y.path := by rw [hV6]; exact mq_namfar6 N5_pz Ppzny _ _ _ _ _ _
          have D6 : Below Wd.heap.size Wd V6 := by rw [hV6]; exact mq_belowset6 D5 Gny _ _ _ _ _ _
          have SD6 := HSI.out _ _ D6 SD0
          simp only [← hV6]
          refine hK _ _ SD6 ?_
          clear hK K' hV6 D5 SD5 M5_ny M5_nz N5_py N5_pz r0 t0 r1 t1 r2 t2 r3 t3 r4 t4 r5 t5
          try simp only [Act.put, List.setIfInBounds_toArray, List.set_cons_zero, List.set_cons_succ]
          refine anyL_ready (rs := [11]) (by kernel_rfl) (by simp) ?_
          refine AllL.cons (o := mqC11) rfl (fun K' hK => ?_) AllL.nil
          rw [if_pos (by rfl)]
          unfold mqC11
          have r0 := M6_nz.cell 0
          have t0 := M6_nz.fr 0
          have r1 := M6_nz.cell 1
          have t1 := M6_nz.fr 1
          have r2 := M6_nz.cell 2
          have t2 := M6_nz.fr 2
          have r3 := M6_nz.cell 3
          have t3 := M6_nz.fr 3
          have r4 := M6_nz.cell 4
          have t4 := M6_nz.fr 4
          have r5 := M6_nz.cell 5
          have t5 := M6_nz.fr 5
          simp only [List.getElem?_toArray, List.getElem?_cons_zero, List.getElem?_cons_succ] at r0 r1 r2 r3 r4 r5
          go_simp
          obtain ⟨V7, hV7⟩ : ∃ V, V = ((((((V6.setCell ⟨nz, 0, none⟩ (.slice pz Y.path.length cz)).setCell ⟨nz, 1, none⟩ (.string Y.id)).setCell ⟨nz, 2, none⟩ (.string Y.title)).setCell ⟨nz, 3, none⟩ (.string Y.link)).setCell ⟨nz, 4, none⟩ (.int .i64 Y.upd)).setCell ⟨nz, 5, none⟩ (.slice none 0 0)) := ⟨_, rfl⟩
          have M7_nz : MBlk V7 nz #[.slice pz Y.path.length cz, .string Y.id, .string Y.title, .string Y.link, .int .i64 Y.upd, .slice none 0 0] 30 := by rw [hV7]; exact mblk_set6 M6_nz _ _ _ _ _ _
          have M7_ny := (show MBlk V7 ny _ _ by rw [hV7]; exact mq_far6 M6_ny (by first | exact Qnynz | exact fun e => Qnzny e.symm) _ _ _ _ _ _)
          have N7_py : NamAt V7 py Y.path := by rw [hV7]; exact mq_namfar6 N6_py Ppynz _ _ _ _ _ _
          have N7_pz : NamAt V7 pz Y.path := by rw [hV7]; exact mq_namfar6 N6_pz Ppznz _ _ _ _ _ _
          have D7 : Below Wd.heap.size Wd V7 := by rw [hV7]; exact mq_belowset6 D6 Gnz _ _ _ _ _ _
          have SD7 := HSI.out _ _ D7 SD0
          simp only [← hV7]
          refine hK _ _ SD7 ?_
          clear hK K' hV7 D6 SD6 M6_ny M6_nz N6_py N6_pz r0 t0 r1 t1 r2 t2 r3 t3 r4 t4 r5 t5
          try simp only [Act.put, List.setIfInBounds_toArray, List.set_cons_zero, List.set_cons_succ]
          refine anyL_done (by kernel_rfl) ?_ _
          go_wp2
          go_meet
          exact ⟨ny, nz, py, cy, pz, cz, rfl, rfl, M7_ny, M7_nz, N7_py, N7_pz, SD7, HD.out.trans (D7.mono HD.out.size)⟩
      · rw [if_pos (by rfl)]
        unfold mqC9
        go_simp
        obtain ⟨V2, hV2⟩ : ∃ V, V = V1.alloc (.cells #[.slice none 0 0, .string ⟨#[]⟩, .string ⟨#[]⟩, .string ⟨#[]⟩, .int .i64 0, .slice none 0 0] 30) := ⟨_, rfl⟩
        obtain ⟨nz, hnz⟩ : ∃ n, n = V1.heap.size := ⟨_, rfl⟩
        have bb : Below V1.heap.size V1 V2 := by rw [hV2]; exact (Below.refl _ _).alloc (Nat.le_refl _) _
        have M2_nz : MBlk V2 nz #[.slice none 0 0, .string ⟨#[]⟩, .string ⟨#[]⟩, .string ⟨#[]⟩, .int .i64 0, .slice none 0 0] 30 := by rw [hV2, hnz]; exact heap_alloc_new _ _
        have N2_py := N1_py.below bb
        have U2_py : ∀ ad, py = some ad → 0 < Y.path.length → ad.block < V2.heap.size := fun ad h1 h2 => Nat.lt_of_lt_of_le (U1_py ad h1 h2) bb.size
        have Ppynz : ∀ ad, py = some ad → 0 < Y.path.length → ad.block ≠ nz := fun ad h1 h2 => by have := U1_py ad h1 h2; omega
        have D2 : Below Wd.heap.size Wd V2 := D1.trans (bb.mono D1.size)
        have Gnz : Wd.heap.size ≤ nz := by rw [hnz]; exact D1.size
        have SD2 := HSI.out _ _ D2 SD0
        simp only [← hV2, ← hnz]
        refine hK _ _ SD2 ?_
        clear hK K' hV2 hnz bb D1 SD1 N1_py U1_py
        try simp only [Act.put, List.setIfInBounds_toArray, List.set_cons_zero, List.set_cons_succ]
        refine anyL_ready (rs := [6, 8]) (by kernel_rfl) (by simp) ?_
        refine AllL.cons (o := mqC6) rfl (fun K' hK => ?_) (AllL.cons (o := mqC8) rfl (fun K' hK => ?_) AllL.nil)
        · rw [if_pos (by rfl)]
          unfold mqC6
          go_simp
          go_at_call 14
          refine (qk4.out _ (qup.out _ (HD.out.trans (D2.mono HD.out.size)))).mono ?_
          rintro e3 V3 ⟨pb, cb, rfl, ho, bb⟩
          have M3_nz := M2_nz.more bb
          have N3_py := N2_py.below bb
          have U3_py : ∀ ad, py = some ad → 0 < Y.path.length → ad.block < V3.heap.size := fun ad h1 h2 => Nat.lt_of_lt_of_le (U2_py ad h1 h2) bb.size
          have F3 := later_is ho qBe.out
          have D3 : Below Wd.heap.size Wd V3 := D2.trans (bb.mono D2.size)
          have SD3 := HSI.out _ _ D3 SD0
          refine hK _ _ SD3 ?_
          clear hK K' bb ho  D2 SD2 M2_nz N2_py U2_py
          try simp only [Act.put, List.setIfInBounds_toArray, List.set_cons_zero, List.set_cons_succ]
          refine anyL_ready (rs := [7, 8]) (by kernel_rfl) (by simp) ?_
          refine AllL.cons (o := mqC7) rfl (fun K' hK => ?_) (AllL.cons (o := mqC8) rfl (fun K' hK => ?_) AllL.nil)
          · rw [if_pos (by rfl)]
            unfold mqC7
            go_simp
            go_at_call 14
            refine (qk5.out _ _ (qup.out _ (HD.out.trans (D3.mono HD.out.size))) F3).mono ?_
            rintro e4 V4 ⟨pz, cz, rfl, ho, bb⟩
            have M4_nz := M3_nz.more bb
            have N4_py := N3_py.below bb
            have U4_py : ∀ ad, py = some ad → 0 < Y.path.length → ad.block < V4.heap.size := fun ad h1 h2 => Nat.lt_of_lt_of_le (U3_py ad h1 h2) bb.size
            have F4 := F3.below bb
            have N4_pz := mq_nam ho
            have hrow := mq_row ho
            have U4_pz : ∀ ad, pz = some ad → 0 < Y.path.length → ad.block < V4.heap.size := fun ad h1 h2 => (hrow ad h1 h2).2
            have Ppznz : ∀ ad, pz = some ad → 0 < Y.path.length → ad.block ≠ nz := fun ad h1 h2 => by have := (hrow ad h1 h2).1; have := M3_nz.lt; omega
            have D4 : Below Wd.heap.size Wd V4 := D3.trans (bb.mono D3.size)
            have SD4 := HSI.out _ _ D4 SD0
            refine hK _ _ SD4 ?_
            clear hK K' bb ho hrow D3 SD3 M3_nz N3_py F3 U3_py
            try simp only [Act.put, List.setIfInBounds_toArray, List.set_cons_zero, List.set_cons_succ]
            refine anyL_ready (rs := [8]) (by kernel_rfl) (by simp) ?_
            refine AllL.cons (o := mqC8) rfl (fun K' hK => ?_) AllL.nil
            rw [if_pos (by rfl)]
            unfold mqC8
            go_simp
            obtain ⟨V5, hV5⟩ : ∃ V, V = V4.alloc (.cells #[.slice none 0 0, .string ⟨#[]⟩, .string ⟨#[]⟩, .string ⟨#[]⟩, .int .i64 0, .slice none 0 0] 30) := ⟨_, rfl⟩
            obtain ⟨ny, hny⟩ : ∃ n, n = V4.heap.size := ⟨_, rfl⟩
            have bb : Below V4.heap.size V4 V5 := by rw [hV5]; exact (Below.refl _ _).alloc (Nat.le_refl _) _
            have M5_ny : MBlk V5 ny #[.slice none 0 0, .string ⟨#[]⟩, .string ⟨#[]⟩, .string ⟨#[]⟩, .int .i64 0, .slice none 0 0] 30 := by rw [hV5, hny]; exact heap_alloc_new _ _
            have M5_nz := M4_nz.more bb
            have N5_py := N4_py.below bb
            have U5_py : ∀ ad, py = some ad → 0 < Y.path.length → ad.block < V5.heap.size := fun ad h1 h2 => Nat.lt_of_lt_of_le (U4_py ad h1 h2) bb.size
            have N5_pz := N4_pz.below bb
            have U5_pz : ∀ ad, pz = some ad → 0 < Y.path.length → ad.block < V5.heap.size := fun ad h1 h2 => Nat.lt_of_lt_of_le (U4_pz ad h1 h2) bb.size
            have F5 := F4.below bb
            have Qnzny : nz ≠ ny := by have := M4_nz.lt; omega
            have Ppyny : ∀ ad, py = some ad → 0 < Y.path.length → ad.block ≠ ny := fun ad h1 h2 => by have := U4_py ad h1 h2; omega
            have Ppzny : ∀ ad, pz = some ad → 0 < Y.path.length → ad.block ≠ ny := fun ad h1 h2 => by have := U4_pz ad h1 h2; omega
            have D5 : Below Wd.heap.size Wd V5 := D4.trans (bb.mono D4.size)
            have Gny : Wd.heap.size ≤ ny := by rw [hny]; exact D4.size
            have SD5 := HSI.out _ _ D5 SD0
            simp only [← hV5, ← hny]
            refine hK _ _ SD5 ?_
            clear hK K' hV5 hny bb D4 SD4 M4_nz N4_py N4_pz F4 U4_py U4_pz
            try simp only [Act.put, List.setIfInBounds_toArray, List.set_cons_zero, List.set_cons_succ]
            refine anyL_ready (rs := [10]) (by kernel_rfl) (by simp) ?_
            refine AllL.cons (o := mqC10) rfl (fun K' hK => ?_) AllL.nil
            rw [if_pos (by rfl)]
            unfold mqC10
            have r0 := M5_ny.cell 0
            have t0 := M5_ny.fr 0
            have r1 := M5_ny.cell 1
            have t1 := M5_ny.fr 1
            have r2 := M5_ny.cell 2
            have t2 := M5_ny.fr 2
            have r3 := M5_ny.cell 3
            have t3 := M5_ny.fr 3
            have r4 := M5_ny.cell 4
            have t4 := M5_ny.fr 4
            have r5 := M5_ny.cell 5
            have t5 := M5_ny.fr 5
            simp only [List.getElem?_toArray, List.getElem?_cons_zero, List.getElem?_cons_succ] at r0 r1 r2 r3 r4 r5
            go_simp
            obtain ⟨V6, hV6⟩ : ∃ V, V = ((((((V5.setCell ⟨ny, 0, none⟩ (.slice py Y.path.length cy)).setCell ⟨ny, 1, none⟩ (.string Y.id)).setCell ⟨ny, 2, none⟩ (.string Y.title)).setCell ⟨ny, 3, none⟩ (.string Y.link)).setCell ⟨ny, 4, none⟩ (.int .i64 Y.upd)).setCell ⟨ny, 5, none⟩ (.slice none 0 0)) := ⟨_, rfl⟩
            have M6_ny : MBlk V6 ny #[.slice py Y.path.length cy, .string Y.id, .string Y.title, .string Y.link, .int .i64 Y.upd, .slice none 0 0] 30 := by rw [hV6]; exact mblk_set6 M5_ny _ _ _ _ _ _
            have M6_nz := (show MBlk V6 nz _ _ by rw [hV6]; exact mq_far6 M5_nz (by first | exact Qnzny | exact fun e => Qnynz e.symm) _ _ _ _ _ _)
            have N6_py : NamAt V6 py Y.path := by rw [hV6]; exact mq_namfar6 N5_py Ppyny _ _ _ _ _ _
            have N6_pz : NamAt V6 pz Y.path := by rw [hV6]; exact mq_namfar6 N5_pz Ppzny _ _ _ _ _ _
            have D6 : Below Wd.heap.size Wd V6 := by rw [hV6]; exact mq_belowset6 D5 Gny _ _ _ _ _ _
            have SD6 := HSI.out _ _ D6 SD0
            simp only [← hV6]
            refine hK _ _ SD6 ?_
            clear hK K' hV6 D5 SD5 M5_ny M5_nz N5_py N5_pz r0 t0 r1 t1 r2 t2 r3 t3 r4 t4 r5 t5
            try simp only [Act.put, List.setIfInBounds_toArray, List.set_cons_zero, List.set_cons_succ]
            refine anyL_ready (rs := [11]) (by kernel_rfl) (by simp) ?_
            refine AllL.cons (o := mqC11) rfl (fun K' hK => ?_) AllL.nil
            rw [if_pos (by rfl)]
            unfold mqC11
            have r0 := M6_nz.cell 0
            have t0 := M6_nz.fr 0
            have r1 := M6_nz.cell 1
            have t1 := M6_nz.fr 1
            have r2 := M6_nz.cell 2
            have t2 := M6_nz.fr 2
            have r3 := M6_nz.cell 3
            have t3 := M6_nz.fr 3
            have r4 := M6_nz.cell 4
            have t4 := M6_nz.fr 4
            have r5 := M6_nz.cell 5
            have t5 := M6_nz.fr 5
            simp only [List.getElem?_toArray, List.getElem?_cons_zero, List.getElem?_cons_succ] at r0 r1 r2 r3 r4 r5
            go_simp
            obtain ⟨V7, hV7⟩ : ∃ V, V = ((((((V6.setCell ⟨nz, 0, none⟩ (.slice pz Y.path.length cz)).setCell ⟨nz, 1, none⟩ (.string Y.id)).setCell ⟨nz, 2, none⟩ (.string Y.title)).setCell ⟨nz, 3, none⟩ (.string Y.link)).setCell ⟨nz, 4, none⟩ (.int .i64 Y.upd)).setCell ⟨nz, 5, none⟩ (.slice none 0 0)) := ⟨_, rfl⟩
            have M7_nz : MBlk V7 nz #[.slice pz Y.path.length cz, .string Y.id, .string Y.title, .string Y.link, .int .i64 Y.upd, .slice none 0 0] 30 := by rw [hV7]; exact mblk_set6 M6_nz _ _ _ _ _ _
            have M7_ny := (show MBlk V7 ny _ _ by rw [hV7]; exact mq_far6 M6_ny (by first | exact Qnynz | exact fun e => Qnzny e.symm) _ _ _ _ _ _)
            have N7_py : NamAt V7 py Y.path := by rw [hV7]; exact mq_namfar6 N6_py Ppynz _ _ _ _ _ _
            have N7_pz : NamAt V7 pz Y.path := by rw [hV7]; exact mq_namfar6 N6_pz Ppznz _ _ _ _ _ _
            have D7 : Below Wd.heap.size Wd V7 := by rw [hV7]; exact mq_belowset6 D6 Gnz _ _ _ _ _ _
            have SD7 := HSI.out _ _ D7 SD0
            simp only [← hV7]
            refine hK _ _ SD7 ?_
            clear hK K' hV7 D6 SD6 M6_ny M6_nz N6_py N6_pz r0 t0 r1 t1 r2 t2 r3 t3 r4 t4 r5 t5
            try simp only [Act.put, List.setIfInBounds_toArray, List.set_cons_zero, List.set_cons_succ]
            refine anyL_done (by kernel_rfl) ?_ _
            go_wp2
            go_meet
            exact ⟨ny, nz, py, cy, pz, cz, rfl, rfl, M7_ny, M7_nz, N7_py, N7_pz, SD7, HD.out.trans (D7.mono HD.out.size)⟩
          · rw [if_pos (by rfl)]
            unfold mqC8
            go_simp
            obtain ⟨V4, hV4⟩ : ∃ V, V = V3.alloc (.cells #[.slice none 0 0, .string ⟨#[]⟩, .string ⟨#[]⟩, .string ⟨#[]⟩, .int .i64 0, .slice none 0 0] 30) := ⟨_, rfl⟩
            obtain ⟨ny, hny⟩ : ∃ n, n = V3.heap.size := ⟨_, rfl⟩
            have bb : Below V3.heap.size V3 V4 := by rw [hV4]; exact (Below.refl _ _).alloc (Nat.le_refl _) _
            have M4_ny : MBlk V4 ny #[.slice none 0 0, .string ⟨#[]⟩, .string ⟨#[]⟩, .string ⟨#[]⟩, .int .i64 0, .slice none 0 0] 30 := by rw [hV4, hny]; exact heap_alloc_new _ _
            have M4_nz := M3_nz.more bb
            have N4_py := N3_py.below bb
            have U4_py : ∀ ad, py = some ad → 0 < Y.path.length → ad.block < V4.heap.size := fun ad h1 h2 => Nat.lt_of_lt_of_le (U3_py ad h1 h2) bb.size
            have F4 := F3.below bb
            have Qnzny : nz ≠ ny := by have := M3_nz.lt; omega
            have Ppyny : ∀ ad, py = some ad → 0 < Y.path.length → ad.block ≠ ny := fun ad h1 h2 => by have := U3_py ad h1 h2; omega
            have D4 : Below Wd.heap.size Wd V4 := D3.trans (bb.mono D3.size)
            have Gny : Wd.heap.size ≤ ny := by rw [hny]; exact D3.size
            have SD4 := HSI.out _ _ D4 SD0
            simp only [← hV4, ← hny]
            refine hK _ _ SD4 ?_
            clear hK K' hV4 hny bb D3 SD3 M3_nz N3_py F3 U3_py
            try simp only [Act.put, List.setIfInBounds_toArray, List.set_cons_zero, List.set_cons_succ]
            refine anyL_ready (rs := [7]) (by kernel_rfl) (by simp) ?_
            refine AllL.cons (o := mqC7) rfl (fun K' hK => ?_) AllL.nil
            rw [if_pos (by rfl)]
            unfold mqC7
            go_simp
            go_at_call 14
            refine (qk5.out _ _ (qup.out _ (HD.out.trans (D4.mono HD.out.size))) F4).mono ?_
            rintro e5 V5 ⟨pz, cz, rfl, ho, bb⟩
            have M5_nz := M4_nz.more bb
            have M5_ny := M4_ny.more bb
            have N5_py := N4_py.below bb
            have U5_py : ∀ ad, py = some ad → 0 < Y.path.length → ad.block < V5.heap.size := fun ad h1 h2 => Nat.lt_of_lt_of_le (U4_py ad h1 h2) bb.size
            have F5 := F4.below bb
            have N5_pz := mq_nam ho
            have hrow := mq_row ho
            have U5_pz : ∀ ad, pz = some ad → 0 < Y.path.length → ad.block < V5.heap.size := fun ad h1 h2 => (hrow ad h1 h2).2
            have Ppznz : ∀ ad, pz = some ad → 0 < Y.path.length → ad.block ≠ nz := fun ad h1 h2 => by have := (hrow ad h1 h2).1; have := M4_nz.lt; omega
            have Ppzny : ∀ ad, pz = some ad → 0 < Y.path.length → ad.block ≠ ny := fun ad h1 h2 => by have := (hrow ad h1 h2).1; have := M4_ny.lt; omega
            have D5 : Below Wd.heap.size Wd V5 := D4.trans (bb.mono D4.size)
            have SD5 := HSI.out _ _ D5 SD0
            refine hK _ _ SD5 ?_
            clear hK K' bb ho hrow D4 SD4 M4_nz M4_ny N4_py F4 U4_py
            try simp only [Act.put, List.setIfInBounds_toArray, List.set_cons_zero, List.set_cons_succ]
            refine anyL_ready (rs := [10]) (by kernel_rfl) (by simp) ?_
            refine AllL.cons (o := mqC10) rfl (fun K' hK => ?_) AllL.nil
            rw [if_pos (by rfl)]
            unfold mqC10
            have r0 := M5_ny.cell 0
            have t0 := M5_ny.fr 0
            have r1 := M5_ny.cell 1
            have t1 := M5_ny.fr 1
            have r2 := M5_ny.cell 2
            have t2 := M5_ny.fr 2
            have r3 := M5_ny.cell 3
            have t3 := M5_ny.fr 3
            have r4 := M5_ny.cell 4
            have t4 := M5_ny.fr 4
            have r5 := M5_ny.cell 5
            have t5 := M5_ny.fr 5
            simp only [List.getElem?_toArray, List.getElem?_cons_zero, List.getElem?_cons_succ] at r0 r1 r2 r3 r4 r5
            go_simp
            obtain ⟨V6, hV6⟩ : ∃ V, V = ((((((V5.setCell ⟨ny, 0, none⟩ (.slice py Y.path.length cy)).setCell ⟨ny, 1, none⟩ (.string Y.id)).setCell ⟨ny, 2, none⟩ (.string Y.title)).setCell ⟨ny, 3, none⟩ (.string Y.link)).setCell ⟨ny, 4, none⟩ (.int .i64 Y.upd)).setCell ⟨ny, 5, none⟩ (.slice none 0 0)) := ⟨_, rfl⟩
            have M6_ny : MBlk V6 ny #[.slice py Y.path.length cy, .string Y.id, .string Y.title, .string Y.link, .int .i64 Y.upd, .slice none 0 0] 30 := by rw [hV6]; exact mblk_set6 M5_ny _ _ _ _ _ _
            have M6_nz := (show MBlk V6 nz _ _ by rw [hV6]; exact mq_far6 M5_nz (by first | exact Qnzny | exact fun e => Qnynz e.symm) _ _ _ _ _ _)
            have N6_py : NamAt V6 py Y.path := by rw [hV6]; exact mq_namfar6 N5_py Ppyny _ _ _ _ _ _
            have N6_pz : NamAt V6 pz Y.path := by rw [hV6]; exact mq_namfar6 N5_pz Ppzny _ _ _ _ _ _
            have D6 : Below Wd.heap.size Wd V6 := by rw [hV6]; exact mq_belowset6 D5 Gny _ _ _ _ _ _
            have SD6 := HSI.out _ _ D6 SD0
            simp only [← hV6]
            refine hK _ _ SD6 ?_
            clear hK K' hV6 D5 SD5 M5_ny M5_nz N5_py N5_pz r0 t0 r1 t1 r2 t2 r3 t3 r4 t4 r5 t5
            try simp only [Act.put, List.setIfInBounds_toArray, List.set_cons_zero, List.set_cons_succ]
            refine anyL_ready (rs := [11]) (by kernel_rfl) (by simp) ?_
            refine AllL.cons (o := mqC11) rfl (fun K' hK => ?_) AllL.nil
            rw [if_pos (by rfl)]
            unfold mqC11
            have r0 := M6_nz.cell 0
            have t0 := M6_nz.fr 0
            have r1 := M6_nz.cell 1
            have t1 := M6_nz.fr 1
            have r2 := M6_nz.cell 2
            have t2 := M6_nz.fr 2
            have r3 := M6_nz.cell 3
            have t3 := M6_nz.fr 3
            have r4 := M6_nz.cell 4
            have t4 := M6_nz.fr 4
            have r5 := M6_nz.cell 5
            have t5 := M6_nz.fr 5
            simp only [List.getElem?_toArray, List.getElem?_cons_zero, List.getElem?_cons_succ] at r0 r1 r2 r3 r4 r5
            go_simp
            obtain ⟨V7, hV7⟩ : ∃ V, V = ((((((V6.setCell ⟨nz, 0, none⟩ (.slice pz Y.path.length cz)).setCell ⟨nz, 1, none⟩ (.string Y.id)).setCell ⟨nz, 2, none⟩ (.string Y.title)).setCell ⟨nz, 3, none⟩ (.string Y.link)).setCell ⟨nz, 4, none⟩ (.int .i64 Y.upd)).setCell ⟨nz, 5, none⟩ (.slice none 0 0)) := ⟨_, rfl⟩
            have M7_nz : MBlk V7 nz #[.slice pz Y.path.length cz, .string Y.id, .string Y.title, .string Y.link, .int .i64 Y.upd, .slice none 0 0] 30 := by rw [hV7]; exact mblk_set6 M6_nz _ _ _ _ _ _
            have M7_ny := (show MBlk V7 ny _ _ by rw [hV7]; exact mq_far6 M6_ny (by first | exact Qnynz | exact fun e => Qnzny e.symm) _ _ _ _ _ _)
            have N7_py : NamAt V7 py Y.path := by rw [hV7]; exact mq_namfar6 N6_py Ppynz _ _ _ _ _ _
            have N7_pz : NamAt V7 pz Y.path := by rw [hV7]; exact mq_namfar6 N6_pz Ppznz _ _ _ _ _ _
            have D7 : Below Wd.heap.size Wd V7 := by rw [hV7]; exact mq_belowset6 D6 Gnz _ _ _ _ _ _
            have SD7 := HSI.out _ _ D7 SD0
            simp only [← hV7]
            refine hK _ _ SD7 ?_
            clear hK K' hV7 D6 SD6 M6_ny M6_nz N6_py N6_pz r0 t0 r1 t1 r2 t2 r3 t3 r4 t4 r5 t5
            try simp only [Act.put, List.setIfInBounds_toArray, List.set_cons_zero, List.set_cons_succ]
            refine anyL_done (by kernel_rfl) ?_ _
            go_wp2
            go_meet
            exact ⟨ny, nz, py, cy, pz, cz, rfl, rfl, M7_ny, M7_nz, N7_py, N7_pz, SD7, HD.out.trans (D7.mono HD.out.size)⟩
        · rw [if_pos (by rfl)]
          unfold mqC8
          go_simp
          obtain ⟨V3, hV3⟩ : ∃ V, V = V2.alloc (.cells #[.slice none 0 0, .string ⟨#[]⟩, .string ⟨#[]⟩, .string ⟨#[]⟩, .int .i64 0, .slice none 0 0] 30) := ⟨_, rfl⟩
          obtain ⟨ny, hny⟩ : ∃ n, n = V2.heap.size := ⟨_, rfl⟩
          have bb : Below V2.heap.size V2 V3 := by rw [hV3]; exact (Below.refl _ _).alloc (Nat.le_refl _) _
          have M3_ny : MBlk V3 ny #[.slice none 0 0, .string ⟨#[]⟩, .string ⟨#[]⟩, .string ⟨#[]⟩, .int .i64 0, .slice none 0 0] 30 := by rw [hV3, hny]; exact heap_alloc_new _ _
          have M3_nz := M2_nz.more bb
          have N3_py := N2_py.below bb
          have U3_py : ∀ ad, py = some ad → 0 < Y.path.length → ad.block < V3.heap.size := fun ad h1 h2 => Nat.lt_of_lt_of_le (U2_py ad h1 h2) bb.size
          have Qnzny : nz ≠ ny := by have := M2_nz.lt; omega
          have Ppyny : ∀ ad, py = some ad → 0 < Y.path.length → ad.block ≠ ny := fun ad h1 h2 => by have := U2_py ad h1 h2; omega
          have D3 : Below Wd.heap.size Wd V3 := D2.trans (bb.mono D2.size)
          have Gny : Wd.heap.size ≤ ny := by rw [hny]; exact D2.size
          have SD3 := HSI.out _ _ D3 SD0
          simp only [← hV3, ← hny]
          refine hK _ _ SD3 ?_
          clear hK K' hV3 hny bb D2 SD2 M2_nz N2_py U2_py
          try simp only [Act.put, List.setIfInBounds_toArray, List.set_cons_zero, List.set_cons_succ]
          refine anyL_ready (rs := [6]) (by kernel_rfl) (by simp) ?_
          refine AllL.cons (o := mqC6) rfl (fun K' hK => ?_) AllL.nil
          rw [if_pos (by rfl)]
          unfold mqC6
          go_simp
          go_at_call 14
          refine (qk4.out _ (qup.out _ (HD.out.trans (D3.mono HD.out.size)))).mono ?_
          rintro e4 V4 ⟨pb, cb, rfl, ho, bb⟩
          have M4_nz := M3_nz.more bb
          have M4_ny := M3_ny.more bb
          have N4_py := N3_py.below bb
          have U4_py : ∀ ad, py = some ad → 0 < Y.path.length → ad.block < V4.heap.size := fun ad h1 h2 => Nat.lt_of_lt_of_le (U3_py ad h1 h2) bb.size
          have F4 := later_is ho qBe.out
          have D4 : Below Wd.heap.size Wd V4 := D3.trans (bb.mono D3.size)
          have SD4 := HSI.out _ _ D4 SD0
          refine hK _ _ SD4 ?_
          clear hK K' bb ho  D3 SD3 M3_nz M3_ny N3_py U3_py
          try simp only [Act.put, List.setIfInBounds_toArray, List.set_cons_zero, List.set_cons_succ]
          refine anyL_ready (rs := [7]) (by kernel_rfl) (by simp) ?_
          refine AllL.cons (o := mqC7) rfl (fun K' hK => ?_) AllL.nil
          rw [if_pos (by rfl)]
          unfold mqC7
          go_simp
          go_at_call 14
          refine (qk5.out _ _ (qup.out _ (HD.out.trans (D4.mono HD.out.size))) F4).mono ?_
          rintro e5 V5 ⟨pz, cz, rfl, ho, bb⟩
          have M5_nz := M4_nz.more bb
          have M5_ny := M4_ny.more bb
          have N5_py := N4_py.below bb
          have U5_py : ∀ ad, py = some ad → 0 < Y.path.length → ad.block < V5.heap.size := fun ad h1 h2 => Nat.lt_of_lt_of_le (U4_py ad h1 h2) bb.size
          have F5 := F4.below bb
          have N5_pz := mq_nam ho
          have hrow := mq_row ho
          have U5_pz : ∀ ad, pz = some ad → 0 < Y.path.length → ad.block < V5.heap.size := fun ad h1 h2 => (hrow ad h1 h2).2
          have Ppznz : ∀ ad, pz = some ad → 0 < Y.path.length → ad.block ≠ nz := fun ad h1 h2 => by have := (hrow ad h1 h2).1; have := M4_nz.lt; omega
          have Ppzny : ∀ ad, pz = some ad → 0 < Y.path.length → ad.block ≠ ny := fun ad h1 h2 => by have := (hrow ad h1 h2).1; have := M4_ny.lt; omega
          have D5 : Below Wd.heap.size Wd V5 := D4.trans (bb.mono D4.size)
          have SD5 := HSI.out _ _ D5 SD0
          refine hK _ _ SD5 ?_
          clear hK K' bb ho hrow D4 SD4 M4_nz M4_ny N4_py F4 U4_py
          try simp only [Act.put, List.setIfInBounds_toArray, List.set_cons_zero, List.set_cons_succ]
          refine anyL_ready (rs := [10]) (by kernel_rfl) (by simp) ?_
          refine AllL.cons (o := mqC10) rfl (fun K' hK => ?_) AllL.nil
          rw [if_pos (by rfl)]
          unfold mqC10
          have r0 := M5_ny.cell 0
          have t0 := M5_ny.fr 0
          have r1 := M5_ny.cell 1
          have t1 := M5_ny.fr 1
          have r2 := M5_ny.cell 2
          have t2 := M5_ny.fr 2
          have r3 := M5_ny.cell 3
          have t3 := M5_ny.fr 3
          have r4 := M5_ny.cell 4
          have t4 := M5_ny.fr 4
          have r5 := M5_ny.cell 5
          have t5 := M5_ny.fr 5
          simp only [List.getElem?_toArray, List.getElem?_cons_zero, List.getElem?_cons_succ] at r0 r1 r2 r3 r4 r5
          go_simp
          obtain ⟨V6, hV6⟩ : ∃ V, V = ((((((V5.setCell ⟨ny, 0, none⟩ (.slice py Y.path.length cy)).setCell ⟨ny, 1, none⟩ (.string Y.id)).setCell ⟨ny, 2, none⟩ (.string Y.title)).setCell ⟨ny, 3, none⟩ (.string Y.link)).setCell ⟨ny, 4, none⟩ (.int .i64 Y.upd)).setCell ⟨ny, 5, none⟩ (.slice none 0 0)) := ⟨_, rfl⟩
          have M6_ny : MBlk V6 ny #[.slice py Y.path.length cy, .string Y.id, .string Y.title, .string Y.link, .int .i64 Y.upd, .slice none 0 0] 30 := by rw [hV6]; exact mblk_set6 M5_ny _ _ _ _ _ _
          have M6_nz := (show MBlk V6 nz _ _ by rw [hV6]; exact mq_far6 M5_nz (by first | exact Qnzny | exact fun e => Qnynz e.symm) _ _ _ _ _ _)
          have N6_py : NamAt V6 py Y.path := by rw [hV6]; exact mq_namfar6 N5_py Ppyny _ _ _ _ _ _
          have N6_pz : NamAt V6 pz Y.path := by rw [hV6]; exact mq_namfar6 N5_pz Ppzny _ _ _ _ _ _
          have D6 : Below Wd.heap.size Wd V6 := by rw [hV6]; exact mq_belowset6 D5 Gny _ _ _ _ _ _
          have SD6 := HSI.out _ _ D6 SD0
          simp only [← hV6]
          refine hK _ _ SD6 ?_
          clear hK K' hV6 D5 SD5 M5_ny M5_nz N5_py N5_pz r0 t0 r1 t1 r2 t2 r3 t3 r4 t4 r5 t5
          try simp only [Act.put, List.setIfInBounds_toArray, List.set_cons_zero, List.set_cons_succ]
          refine anyL_ready (rs := [11]) (by kernel_rfl) (by simp) ?_
          refine AllL.cons (o := mqC11) rfl (fun K' hK => ?_) AllL.nil
          rw [if_pos (by rfl)]
          unfold mqC11
          have r0 := M6_nz.cell 0
          have t0 := M6_nz.fr 0
          have r1 := M6_nz.cell 1
          have t1 := M6_nz.fr 1
          have r2 := M6_nz.cell 2
          have t2 := M6_nz.fr 2
          have r3 := M6_nz.cell 3
          have t3 := M6_nz.fr 3
          have r4 := M6_nz.cell 4
          have t4 := M6_nz.fr 4
          have r5 := M6_nz.cell 5
          have t5 := M6_nz.fr 5
          simp only [List.getElem?_toArray, List.getElem?_cons_zero, List.getElem?_cons_succ] at r0 r1 r2 r3 r4 r5
          go_simp
          obtain ⟨V7, hV7⟩ : ∃ V, V = ((((((V6.setCell ⟨nz, 0, none⟩ (.slice pz Y.path.length cz)).setCell ⟨nz, 1, none⟩ (.string Y.id)).setCell ⟨nz, 2, none⟩ (.string Y.title)).setCell ⟨nz, 3, none⟩ (.string Y.link)).setCell ⟨nz, 4, none⟩ (.int .i64 Y.upd)).setCell ⟨nz, 5, none⟩ (.slice none 0 0)) := ⟨_, rfl⟩
          have M7_nz : MBlk V7 nz #[.slice pz Y.path.length cz, .string Y.id, .string Y.title, .string Y.link, .int .i64 Y.upd, .slice none 0 0] 30 := by rw [hV7]; exact mblk_set6 M6_nz _ _ _ _ _ _
          have M7_ny := (show MBlk V7 ny _ _ by rw [hV7]; exact mq_far6 M6_ny (by first | exact Qnynz | exact fun e => Qnzny e.symm) _ _ _ _ _ _)
          have N7_py : NamAt V7 py Y.path := by rw [hV7]; exact mq_namfar6 N6_py Ppynz _ _ _ _ _ _
          have N7_pz : NamAt V7 pz Y.path := by rw [hV7]; exact mq_namfar6 N6_pz Ppznz _ _ _ _ _ _
          have D7 : Below Wd.heap.size Wd V7 := by rw [hV7]; exact mq_belowset6 D6 Gnz _ _ _ _ _ _
          have SD7 := HSI.out _ _ D7 SD0
          simp only [← hV7]
          refine hK _ _ SD7 ?_
          clear hK K' hV7 D6 SD6 M6_ny M6_nz N6_py N6_pz r0 t0 r1 t1 r2 t2 r3 t3 r4 t4 r5 t5
          try simp only [Act.put, List.setIfInBounds_toArray, List.set_cons_zero, List.set_cons_succ]
          refine anyL_done (by kernel_rfl) ?_ _
          go_wp2
          go_meet
          exact ⟨ny, nz, py, cy, pz, cz, rfl, rfl, M7_ny, M7_nz, N7_py, N7_pz, SD7, HD.out.trans (D7.mono HD.out.size)⟩
    · rw [if_pos (by rfl)]
      unfold mqC8
      go_simp
      obtain ⟨V1, hV1⟩ : ∃ V, V = Wd.alloc (.cells #[.slice none 0 0, .string ⟨#[]⟩, .string ⟨#[]⟩, .string ⟨#[]⟩, .int .i64 0, .slice none 0 0] 30) := ⟨_, rfl⟩
      obtain ⟨ny, hny⟩ : ∃ n, n = Wd.heap.size := ⟨_, rfl⟩
      have bb : Below Wd.heap.size Wd V1 := by rw [hV1]; exact (Below.refl _ _).alloc (Nat.le_refl _) _
      have M1_ny : MBlk V1 ny #[.slice none 0 0, .string ⟨#[]⟩, .string ⟨#[]⟩, .string ⟨#[]⟩, .int .i64 0, .slice none 0 0] 30 := by rw [hV1, hny]; exact heap_alloc_new _ _
      have D1 : Below Wd.heap.size Wd V1 := D0.trans (bb.mono D0.size)
      have Gny : Wd.heap.size ≤ ny := by rw [hny]; exact D0.size
      have SD1 := HSI.out _ _ D1 SD0
      simp only [← hV1, ← hny]
      refine hK _ _ SD1 ?_
      clear hK K' hV1 hny bb D0  
      try simp only [Act.put, List.setIfInBounds_toArray, List.set_cons_zero, List.set_cons_succ]
      refine anyL_ready (rs := [2, 9]) (by kernel_rfl) (by simp) ?_
      refine AllL.cons (o := mqC2) rfl (fun K' hK => ?_) (AllL.cons (o := mqC9) rfl (fun K' hK => ?_) AllL.nil)
      · rw [if_pos (by rfl)]
        unfold mqC2
        go_simp
        go_at_call 14
        refine (qk3.out _ _ (qup.out _ (HD.out.trans (D1.mono HD.out.size))) (HXF.out.below (HD.out.trans (D1.mono HD.out.size)))).mono ?_
        rintro e2 V2 ⟨py, cy, rfl, ho, bb⟩
        have M2_ny := M1_ny.more bb
        have N2_py := mq_nam ho
        have hrow := mq_row ho
        have U2_py : ∀ ad, py = some ad → 0 < Y.path.length → ad.block < V2.heap.size := fun ad h1 h2 => (hrow ad h1 h2).2
        have Ppyny : ∀ ad, py = some ad → 0 < Y.path.length → ad.block ≠ ny := fun ad h1 h2 => by have := (hrow ad h1 h2).1; have := M1_ny.lt; omega
        have D2 : Below Wd.heap.size Wd V2 := D1.trans (bb.mono D1.size)
        have SD2 := HSI.out _ _ D2 SD0
        refine hK _ _ SD2 ?_
        clear hK K' bb ho hrow D1 SD1 M1_ny
        try simp only [Act.put, List.setIfInBounds_toArray, List.set_cons_zero, List.set_cons_succ]
        refine anyL_ready (rs := [6, 9]) (by kernel_rfl) (by simp) ?_
        refine AllL.cons (o := mqC6) rfl (fun K' hK => ?_) (AllL.cons (o := mqC9) rfl (fun K' hK => ?_) AllL.nil)
        · rw [if_pos (by rfl)]
          unfold mqC6
          go_simp
          go_at_call 14
          refine (qk4.out _ (qup.out _ (HD.out.trans (D2.mono HD.out.size)))).mono ?_
          rintro e3 V3 ⟨pb, cb, rfl, ho, bb⟩
          have M3_ny := M2_ny.more bb
          have N3_py := N2_py.below bb
          have U3_py : ∀ ad, py = some ad → 0 < Y.path.length → ad.block < V3.heap.size := fun ad h1 h2 => Nat.lt_of_lt_of_le (U2_py ad h1 h2) bb.size
          have F3 := later_is ho qBe.out
          have D3 : Below Wd.heap.size Wd V3 := D2.trans (bb.mono D2.size)
          have SD3 := HSI.out _ _ D3 SD0
          refine hK _ _ SD3 ?_
          clear hK K' bb ho  D2 SD2 M2_ny N2_py U2_py
          try simp only [Act.put, List.setIfInBounds_toArray, List.set_cons_zero, List.set_cons_succ]
          refine anyL_ready (rs := [7, 9]) (by kernel_rfl) (by simp) ?_
          refine AllL.cons (o := mqC7) rfl (fun K' hK => ?_) (AllL.cons (o := mqC9) rfl (fun K' hK => ?_) AllL.nil)
          · rw [if_pos (by rfl)]
            unfold mqC7
            go_simp
            go_at_call 14
            refine (qk5.out _ _ (qup.out _ (HD.out.trans (D3.mono HD.out.size))) F3).mono ?_
            rintro e4 V4 ⟨pz, cz, rfl, ho, bb⟩
            have M4_ny := M3_ny.more bb
            have N4_py := N3_py.below bb
            have U4_py : ∀ ad, py = some ad → 0 < Y.path.length → ad.block < V4.heap.size := fun ad h1 h2 => Nat.lt_of_lt_of_le (U3_py ad h1 h2) bb.size
            have F4 := F3.below bb
            have N4_pz := mq_nam ho
            have hrow := mq_row ho
            have U4_pz : ∀ ad, pz = some ad → 0 < Y.path.length → ad.block < V4.heap.size := fun ad h1 h2 => (hrow ad h1 h2).2
            have Ppzny : ∀ ad, pz = some ad → 0 < Y.path.length → ad.block ≠ ny := fun ad h1 h2 => by have := (hrow ad h1 h2).1; have := M3_ny.lt; omega
            have D4 : Below Wd.heap.size Wd V4 := D3.trans (bb.mono D3.size)
            have SD4 := HSI.out _ _ D4 SD0
            refine hK _ _ SD4 ?_
            clear hK K' bb ho hrow D3 SD3 M3_ny N3_py F3 U3_py
            try simp only [Act.put, List.setIfInBounds_toArray, List.set_cons_zero, List.set_cons_succ]
            refine anyL_ready (rs := [9]) (by kernel_rfl) (by simp) ?_
            refine AllL.cons (o := mqC9) rfl (fun K' hK => ?_) AllL.nil
            rw [if_pos (by rfl)]
            unfold mqC9
            go_simp
            obtain ⟨V5, hV5⟩ : ∃ V, V = V4.alloc (.cells #[.slice none 0 0, .string ⟨#[]⟩, .string ⟨#[]⟩, .string ⟨#[]⟩, .int .i64 0, .slice none 0 0] 30) := ⟨_, rfl⟩
            obtain ⟨nz, hnz⟩ : ∃ n, n = V4.heap.size := ⟨_, rfl⟩
            have bb : Below V4.heap.size V4 V5 := by rw [hV5]; exact (Below.refl _ _).alloc (Nat.le_refl _) _
            have M5_nz : MBlk V5 nz #[.slice none 0 0, .string ⟨#[]⟩, .string ⟨#[]⟩, .string ⟨#[]⟩, .int .i64 0, .slice none 0 0] 30 := by rw [hV5, hnz]; exact heap_alloc_new _ _
            have M5_ny := M4_ny.more bb
            have N5_py := N4_py.below bb
            have U5_py : ∀ ad, py = some ad → 0 < Y.path.length → ad.block < V5.heap.size := fun ad h1 h2 => Nat.lt_of_lt_of_le (U4_py ad h1 h2) bb.size
            have N5_pz := N4_pz.below bb
            have U5_pz : ∀ ad, pz = some ad → 0 < Y.path.length → ad.block < V5.heap.size := fun ad h1 h2 => Nat.lt_of_lt_of_le (U4_pz ad h1 h2) bb.size
            have F5 := F4.below bb
            have Qnynz : ny ≠ nz := by have := M4_ny.lt; omega
            have Ppynz : ∀ ad, py = some ad → 0 < Y.path.length → ad.block ≠ nz := fun ad h1 h2 => by have := U4_py ad h1 h2; omega
            have Ppznz : ∀ ad, pz = some ad → 0 < Y.path.length → ad.block ≠ nz := fun ad h1 h2 => by have := U4_pz ad h1 h2; omega
            have D5 : Below Wd.heap.size Wd V5 := D4.trans (bb.mono D4.size)
            have Gnz : Wd.heap.size ≤ nz := by rw [hnz]; exact D4.size
            have SD5 := HSI.out _ _ D5 SD0
            simp only [← hV5, ← hnz]
            refine hK _ _ SD5 ?_
            clear hK K' hV5 hnz bb D4 SD4 M4_ny N4_py N4_pz F4 U4_py U4_pz
            try simp only [Act.put, List.setIfInBounds_toArray, List.set_cons_zero, List.set_cons_succ]
            refine anyL_ready (rs := [10]) (by kernel_rfl) (by simp) ?_
            refine AllL.cons (o := mqC10) rfl (fun K' hK => ?_) AllL.nil
            rw [if_pos (by rfl)]
            unfold mqC10
            have r0 := M5_ny.cell 0
            have t0 := M5_ny.fr 0
            have r1 := M5_ny.cell 1
            have t1 := M5_ny.fr 1
            have r2 := M5_ny.cell 2
            have t2 := M5_ny.fr 2
            have r3 := M5_ny.cell 3
            have t3 := M5_ny.fr 3
            have r4 := M5_ny.cell 4
            have t4 := M5_ny.fr 4
            have r5 := M5_ny.cell 5
            have t5 := M5_ny.fr 5
            simp only [List.getElem?_toArray, List.getElem?_cons_zero, List.getElem?_cons_succ] at r0 r1 r2 r3 r4 r5
            go_simp
            obtain ⟨V6, hV6⟩ : ∃ V, V = ((((((V5.setCell ⟨ny, 0, none⟩ (.slice py Y.path.length cy)).setCell ⟨ny, 1, none⟩ (.string Y.id)).setCell ⟨ny, 2, none⟩ (.string Y.title)).setCell ⟨ny, 3, none⟩ (.string Y.link)).setCell ⟨ny, 4, none⟩ (.int .i64 Y.upd)).setCell ⟨ny, 5, none⟩ (.slice none 0 0)) := ⟨_, rfl⟩
            have M6_ny : MBlk V6 ny #[.slice py Y.path.length cy, .string Y.id, .string Y.title, .string Y.link, .int .i64 Y.upd, .slice none 0 0] 30 := by rw [hV6]; exact mblk_set6 M5_ny _ _ _ _ _ _
            have M6_nz := (show MBlk V6 nz _ _ by rw [hV6]; exact mq_far6 M5_nz (by first | exact Qnzny | exact fun e => Qnynz e.symm) _ _ _ _ _ _)
            have N6_py : NamAt V6 py Y.path := by rw [hV6]; exact mq_namfar6 N5_py Ppyny _ _ _ _ _ _
            have N6_pz : NamAt V6 pz Y.path := by rw [hV6]; exact mq_namfar6 N5_pz Ppzny _ _ _ _ _ _
            have D6 : Below Wd.heap.size Wd V6 := by rw [hV6]; exact mq_belowset6 D5 Gny _ _ _ _ _ _
            have SD6 := HSI.out _ _ D6 SD0
            simp only [← hV6]
            refine hK _ _ SD6 ?_
            clear hK K' hV6 D5 SD5 M5_ny M5_nz N5_py N5_pz r0 t0 r1 t1 r2 t2 r3 t3 r4 t4 r5 t5
            try simp only [Act.put, List.setIfInBounds_toArray, List.set_cons_zero, List.set_cons_succ]
            refine anyL_ready (rs := [11]) (by kernel_rfl) (by simp) ?_
            refine AllL.cons (o := mqC11) rfl (fun K' hK => ?_) AllL.nil
            rw [if_pos (by rfl)]
            unfold mqC11
            have r0 := M6_nz.cell 0
            have t0 := M6_nz.fr 0
            have r1 := M6_nz.cell 1
            have t1 := M6_nz.fr 1
            have r2 := M6_nz.cell 2
            have t2 := M6_nz.fr 2
            have r3 := M6_nz.cell 3
            have t3 := M6_nz.fr 3
            have r4 := M6_nz.cell 4
            have t4 := M6_nz.fr 4
            have r5 := M6_nz.cell 5
            have t5 := M6_nz.fr 5
            simp only [List.getElem?_toArray, List.getElem?_cons_zero, List.getElem?_cons_succ] at r0 r1 r2 r3 r4 r5
            go_simp
            obtain ⟨V7, hV7⟩ : ∃ V, V = ((((((V6.setCell ⟨nz, 0, none⟩ (.slice pz Y.path.length cz)).setCell ⟨nz, 1, none⟩ (.string Y.id)).setCell ⟨nz, 2, none⟩ (.string Y.title)).setCell ⟨nz, 3, none⟩ (.string Y.link)).setCell ⟨nz, 4, none⟩ (.int .i64 Y.upd)).setCell ⟨nz, 5, none⟩ (.slice none 0 0)) := ⟨_, rfl⟩
            have M7_nz : MBlk V7 nz #[.slice pz Y.path.length cz, .string Y.id, .string Y.title, .string Y.link, .int .i64 Y.upd, .slice none 0 0] 30 := by rw [hV7]; exact mblk_set6 M6_nz _ _ _ _ _ _
            have M7_ny := (show MBlk V7 ny _ _ by rw [hV7]; exact mq_far6 M6_ny (by first | exact Qnynz | exact fun e => Qnzny e.symm) _ _ _ _ _ _)
            have N7_py : NamAt V7 py Y.path := by rw [hV7]; exact mq_namfar6 N6_py Ppynz _ _ _ _ _ _
            have N7_pz : NamAt V7 pz Y.path := by rw [hV7]; exact mq_namfar6 N6_pz Ppznz _ _ _ _ _ _
            have D7 : Below Wd.heap.size Wd V7 := by rw [hV7]; exact mq_belowset6 D6 Gnz _ _ _ _ _ _
            have SD7 := HSI.out _ _ D7 SD0
            simp only [← hV7]
            refine hK _ _ SD7 ?_
            clear hK K' hV7 D6 SD6 M6_ny M6_nz N6_py N6_pz r0 t0 r1 t1 r2 t2 r3 t3 r4 t4 r5 t5
            try simp only [Act.put, List.setIfInBounds_toArray, List.set_cons_zero, List.set_cons_succ]
            refine anyL_done (by kernel_rfl) ?_ _
            go_wp2
            go_meet
            exact ⟨ny, nz, py, cy, pz, cz, rfl, rfl, M7_ny, M7_nz, N7_py, N7_pz, SD7, HD.out.trans (D7.mono HD.out.size)⟩
          · rw [if_pos (by rfl)]
            unfold mqC9
            go_simp
            obtain ⟨V4, hV4⟩ : ∃ V, V = V3.alloc (.cells #[.slice none 0 0, .string ⟨#[]⟩, .string ⟨#[]⟩, .string ⟨#[]⟩, .int .i64 0, .slice none 0 0] 30) := ⟨_, rfl⟩
            obtain ⟨nz, hnz⟩ : ∃ n, n = V3.heap.size := ⟨_, rfl⟩
            have bb : Below V3.heap.size V3 V4 := by rw [hV4]; exact (Below.refl _ _).alloc (Nat.le_refl _) _
            have M4_nz : MBlk V4 nz #[.slice none 0 0, .string ⟨#[]⟩, .string ⟨#[]⟩, .string ⟨#[]⟩, .int .i64 0, .slice none 0 0] 30 := by rw [hV4, hnz]; exact heap_alloc_new _ _
            have M4_ny := M3_ny.more bb
            have N4_py := N3_py.below bb
            have U4_py : ∀ ad, py = some ad → 0 < Y.path.length → ad.block < V4.heap.size := fun ad h1 h2 => Nat.lt_of_lt_of_le (U3_py ad h1 h2) bb.size
            have F4 := F3.below bb
            have Qnynz : ny ≠ nz := by have := M3_ny.lt; omega
            have Ppynz : ∀ ad, py = some ad → 0 < Y.path.length → ad.block ≠ nz := fun ad h1 h2 => by have := U3_py ad h1 h2; omega
            have D4 : Below Wd.heap.size Wd V4 := D3.trans (bb.mono D3.size)
            have Gnz : Wd.heap.size ≤ nz := by rw [hnz]; exact D3.size
            have SD4 := HSI.out _ _ D4 SD0
            simp only [← hV4, ← hnz]
            refine hK _ _ SD4 ?_
            clear hK K' hV4 hnz bb D3 SD3 M3_ny N3_py F3 U3_py
            try simp only [Act.put, List.setIfInBounds_toArray, List.set_cons_zero, List.set_cons_succ]
            refine anyL_ready (rs := [7]) (by kernel_rfl) (by simp) ?_
            refine AllL.cons (o := mqC7) rfl (fun K' hK => ?_) AllL.nil
            rw [if_pos (by rfl)]
            unfold mqC7
            go_simp
            go_at_call 14
            refine (qk5.out _ _ (qup.out _ (HD.out.trans (D4.mono HD.out.size))) F4).mono ?_
            rintro e5 V5 ⟨pz, cz, rfl, ho, bb⟩
            have M5_ny := M4_ny.more bb
            have M5_nz := M4_nz.more bb
            have N5_py := N4_py.below bb
            have U5_py : ∀ ad, py = some ad → 0 < Y.path.length → ad.block < V5.heap.size := fun ad h1 h2 => Nat.lt_of_lt_of_le (U4_py ad h1 h2) bb.size
            have F5 := F4.below bb
            have N5_pz := mq_nam ho
            have hrow := mq_row ho
            have U5_pz : ∀ ad, pz = some ad → 0 < Y.path.length → ad.block < V5.heap.size := fun ad h1 h2 => (hrow ad h1 h2).2
            have Ppzny : ∀ ad, pz = some ad → 0 < Y.path.length → ad.block ≠ ny := fun ad h1 h2 => by have := (hrow ad h1 h2).1; have := M4_ny.lt; omega
            have Ppznz : ∀ ad, pz = some ad → 0 < Y.path.length → ad.block ≠ nz := fun ad h1 h2 => by have := (hrow ad h1 h2).1; have := M4_nz.lt; omega
            have D5 : Below Wd.heap.size Wd V5 := D4.trans (bb.mono D4.size)
            have SD5 := HSI.out _ _ D5 SD0
            refine hK _ _ SD5 ?_
            clear hK K' bb ho hrow D4 SD4 M4_ny M4_nz N4_py F4 U4_py
            try simp only [Act.put, List.setIfInBounds_toArray, List.set_cons_zero, List.set_cons_succ]
            refine anyL_ready (rs := [10]) (by kernel_rfl) (by simp) ?_
            refine AllL.cons (o := mqC10) rfl (fun K' hK => ?_) AllL.nil
            rw [if_pos (by rfl)]
            unfold mqC10
            have r0 := M5_ny.cell 0
            have t0 := M5_ny.fr 0
            have r1 := M5_ny.cell 1
            have t1 := M5_ny.fr 1
            have r2 := M5_ny.cell 2
            have t2 := M5_ny.fr 2
            have r3 := M5_ny.cell 3
            have t3 := M5_ny.fr 3
            have r4 := M5_ny.cell 4
            have t4 := M5_ny.fr 4
            have r5 := M5_ny.cell 5
            have t5 := M5_ny.fr 5
            simp only [List.getElem?_toArray, List.getElem?_cons_zero, List.getElem?_cons_succ] at r0 r1 r2 r3 r4 r5
            go_simp
            obtain ⟨V6, hV6⟩ : ∃ V, V = ((((((V5.setCell ⟨ny, 0, none⟩ (.slice py Y.path.length cy)).setCell ⟨ny, 1, none⟩ (.string Y.id)).setCell ⟨ny, 2, none⟩ (.string Y.title)).setCell ⟨ny, 3, none⟩ (.string Y.link)).setCell ⟨ny, 4, none⟩ (.int .i64 Y.upd)).setCell ⟨ny, 5, none⟩ (.slice none 0 0)) := ⟨_, rfl⟩
            have M6_ny : MBlk V6 ny #[.slice py Y.path.length cy, .string Y.id, .string Y.title, .string Y.link, .int .i64 Y.upd, .slice none 0 0] 30 := by rw [hV6]; exact mblk_set6 M5_ny _ _ _ _ _ _
            have M6_nz := (show MBlk V6 nz _ _ by rw [hV6]; exact mq_far6 M5_nz (by first | exact Qnzny | exact fun e => Qnynz e.symm) _ _ _ _ _ _)
            have N6_py : NamAt V6 py Y.path := by rw [hV6]; exact mq_namfar6 N5_py Ppyny _ _ _ _ _ _
            have N6_pz : NamAt V6 pz Y.path := by rw [hV6]; exact mq_namfar6 N5_pz Ppzny _ _ _ _ _ _
            have D6 : Below Wd.heap.size Wd V6 := by rw [hV6]; exact mq_belowset6 D5 Gny _ _ _ _ _ _
            have SD6 := HSI.out _ _ D6 SD0
            simp only [← hV6]
            refine hK _ _ SD6 ?_
            clear hK K' hV6 D5 SD5 M5_ny M5_nz N5_py N5_pz r0 t0 r1 t1 r2 t2 r3 t3 r4 t4 r5 t5
            try simp only [Act.put, List.setIfInBounds_toArray, List.set_cons_zero, List.set_cons_succ]
            refine anyL_ready (rs := [11]) (by kernel_rfl) (by simp) ?_
            refine AllL.cons (o := mqC11) rfl (fun K' hK => ?_) AllL.nil
            rw [if_pos (by rfl)]
            unfold mqC11
            have r0 := M6_nz.cell 0
            have t0 := M6_nz.fr 0
            have r1 := M6_nz.cell 1
            have t1 := M6_nz.fr 1
            have r2 := M6_nz.cell 2
            have t2 := M6_nz.fr 2
            have r3 := M6_nz.cell 3
            have t3 := M6_nz.fr 3
            have r4 := M6_nz.cell 4
            have t4 := M6_nz.fr 4
            have r5 := M6_nz.cell 5
            have t5 := M6_nz.fr 5
            simp only [List.getElem?_toArray, List.getElem?_cons_zero, List.getElem?_cons_succ] at r0 r1 r2 r3 r4 r5
            go_simp
            obtain ⟨V7, hV7⟩ : ∃ V, V = ((((((V6.setCell ⟨nz, 0, none⟩ (.slice pz Y.path.length cz)).setCell ⟨nz, 1, none⟩ (.string Y.id)).setCell ⟨nz, 2, none⟩ (.string Y.title)).setCell ⟨nz, 3, none⟩ (.string Y.link)).setCell ⟨nz, 4, none⟩ (.int .i64 Y.upd)).setCell ⟨nz, 5, none⟩ (.slice none 0 0)) := ⟨_, rfl⟩
            have M7_nz : MBlk V7 nz #[.slice pz Y.path.length cz, .string Y.id, .string Y.title, .string Y.link, .int .i64 Y.upd, .slice none 0 0] 30 := by rw [hV7]; exact mblk_set6 M6_nz _ _ _ _ _ _
            have M7_ny := (show MBlk V7 ny _ _ by rw [hV7]; exact mq_far6 M6_ny (by first | exact Qnynz | exact fun e => Qnzny e.symm) _ _ _ _ _ _)
            have N7_py : NamAt V7 py Y.path := by rw [hV7]; exact mq_namfar6 N6_py Ppynz _ _ _ _ _ _
            have N7_pz : NamAt V7 pz Y.path := by rw [hV7]; exact mq_namfar6 N6_pz Ppznz _ _ _ _ _ _
            have D7 : Below Wd.heap.size Wd V7 := by rw [hV7]; exact mq_belowset6 D6 Gnz _ _ _ _ _ _
            have SD7 := HSI.out _ _ D7 SD0
            simp only [← hV7]
            refine hK _ _ SD7 ?_
            clear hK K' hV7 D6 SD6 M6_ny M6_nz N6_py N6_pz r0 t0 r1 t1 r2 t2 r3 t3 r4 t4 r5 t5
            try simp only [Act.put, List.setIfInBounds_toArray, List.set_cons_zero, List.set_cons_succ]
            refine anyL_done (by kernel_rfl) ?_ _
            go_wp2
            go_meet
            exact ⟨ny, nz, py, cy, pz, cz, rfl, rfl, M7_ny, M7_nz, N7_py, N7_pz, SD7, HD.out.trans (D7.mono HD.out.size)⟩
        · rw [if_pos (by rfl)]
          unfold mqC9
          go_simp
          obtain ⟨V3, hV3⟩ : ∃ V, V = V2.alloc (.cells #[.slice none 0 0, .string ⟨#[]⟩, .string ⟨#[]⟩, .string ⟨#[]⟩, .int .i64 0, .slice none 0 0] 30) := ⟨_, rfl⟩
          obtain ⟨nz, hnz⟩ : ∃ n, n = V2.heap.size := ⟨_, rfl⟩
          have bb : Below V2.heap.size V2 V3 := by rw [hV3]; exact (Below.refl _ _).alloc (Nat.le_refl _) _
          have M3_nz : MBlk V3 nz #[.slice none 0 0, .string ⟨#[]⟩, .string ⟨#[]⟩, .string ⟨#[]⟩, .int .i64 0, .slice none 0 0] 30 := by rw [hV3, hnz]; exact heap_alloc_new _ _
          have M3_ny := M2_ny.more bb
          have N3_py := N2_py.below bb
          have U3_py : ∀ ad, py = some ad → 0 < Y.path.length → ad.block < V3.heap.size := fun ad h1 h2 => Nat.lt_of_lt_of_le (U2_py ad h1 h2) bb.size
          have Qnynz : ny ≠ nz := by have := M2_ny.lt; omega
          have Ppynz : ∀ ad, py = some ad → 0 < Y.path.length → ad.block ≠ nz := fun ad h1 h2 => by have := U2_py ad h1 h2; omega
          have D3 : Below Wd.heap.size Wd V3 := D2.trans (bb.mono D2.size)
          have Gnz : Wd.heap.size ≤ nz := by rw [hnz]; exact D2.size
          have SD3 := HSI.out _ _ D3 SD0
          simp only [← hV3, ← hnz]
          refine hK _ _ SD3 ?_
          clear hK K' hV3 hnz bb D2 SD2 M2_ny N2_py U2_py
          try simp only [Act.put, List.setIfInBounds_toArray, List.set_cons_zero, List.set_cons_succ]
          refine anyL_ready (rs := [6]) (by kernel_rfl) (by simp) ?_
          refine AllL.cons (o := mqC6) rfl (fun K' hK => ?_) AllL.nil
          rw [if_pos (by rfl)]
          unfold mqC6
          go_simp
          go_at_call 14
          refine (qk4.out _ (qup.out _ (HD.out.trans (D3.mono HD.out.size)))).mono ?_
          rintro e4 V4 ⟨pb, cb, rfl, ho, bb⟩
          have M4_ny := M3_ny.more bb
          have M4_nz := M3_nz.more bb
          have N4_py := N3_py.below bb
          have U4_py : ∀ ad, py = some ad → 0 < Y.path.length → ad.block < V4.heap.size := fun ad h1 h2 => Nat.lt_of_lt_of_le (U3_py ad h1 h2) bb.size
          have F4 := later_is ho qBe.out
          have D4 : Below Wd.heap.size Wd V4 := D3.trans (bb.mono D3.size)
          have SD4 := HSI.out _ _ D4 SD0
          refine hK _ _ SD4 ?_
          clear hK K' bb ho  D3 SD3 M3_ny M3_nz N3_py U3_py
          try simp only [Act.put, List.setIfInBounds_toArray, List.set_cons_zero, List.set_cons_succ]
          refine anyL_ready (rs := [7]) (by kernel_rfl) (by simp) ?_
          refine AllL.cons (o := mqC7) rfl (fun K' hK => ?_) AllL.nil
          rw [if_pos (by rfl)]
          unfold mqC7
          go_simp
          go_at_call 14
          refine (qk5.out _ _ (qup.out _ (HD.out.trans (D4.mono HD.out.size))) F4).mono ?_
          rintro e5 V5 ⟨pz, cz, rfl, ho, bb⟩
          have M5_ny := M4_ny.more bb
          have M5_nz := M4_nz.more bb
          have N5_py := N4_py.below bb
          have U5_py : ∀ ad, py = some ad → 0 < Y.path.length → ad.block < V5.heap.size := fun ad h1 h2 => Nat.lt_of_lt_of_le (U4_py ad h1 h2) bb.size
          have F5 := F4.below bb
          have N5_pz := mq_nam ho
          have hrow := mq_row ho
          have U5_pz : ∀ ad, pz = some ad → 0 < Y.path.length → ad.block < V5.heap.size := fun ad h1 h2 => (hrow ad h1 h2).2
          have Ppzny : ∀ ad, pz = some ad → 0 < Y.path.length → ad.block ≠ ny := fun ad h1 h2 => by have := (hrow ad h1 h2).1; have := M4_ny.lt; omega
          have Ppznz : ∀ ad, pz = some ad → 0 < Y.path.length → ad.block ≠ nz := fun ad h1 h2 => by have := (hrow ad h1 h2).1; have := M4_nz.lt; omega
          have D5 : Below Wd.heap.size Wd V5 := D4.trans (bb.mono D4.size)
          have SD5 := HSI.out _ _ D5 SD0
          refine hK _ _ SD5 ?_
          clear hK K' bb ho hrow D4 SD4 M4_ny M4_nz N4_py F4 U4_py
          try simp only [Act.put, List.setIfInBounds_toArray, List.set_cons_zero, List.set_cons_succ]
          refine anyL_ready (rs := [10]) (by kernel_rfl) (by simp) ?_
          refine AllL.cons (o := mqC10) rfl (fun K' hK => ?_) AllL.nil
          rw [if_pos (by rfl)]
          unfold mqC10
          have r0 := M5_ny.cell 0
          have t0 := M5_ny.fr 0
          have r1 := M5_ny.cell 1
          have t1 := M5_ny.fr 1
          have r2 := M5_ny.cell 2
          have t2 := M5_ny.fr 2
          have r3 := M5_ny.cell 3
          have t3 := M5_ny.fr 3
          have r4 := M5_ny.cell 4
          have t4 := M5_ny.fr 4
          have r5 := M5_ny.cell 5
          have t5 := M5_ny.fr 5
          simp only [List.getElem?_toArray, List.getElem?_cons_zero, List.getElem?_cons_succ] at r0 r1 r2 r3 r4 r5
          go_simp
          obtain ⟨V6, hV6⟩ : ∃ V, V = ((((((V5.setCell ⟨ny, 0, none⟩ (.slice py Y.path.length cy)).setCell ⟨ny, 1, none⟩ (.string Y.id)).setCell ⟨ny, 2, none⟩ (.string Y.title)).setCell ⟨ny, 3, none⟩ (.string Y.link)).setCell ⟨ny, 4, none⟩ (.int .i64 Y.upd)).setCell ⟨ny, 5, none⟩ (.slice none 0 0)) := ⟨_, rfl⟩
          have M6_ny : MBlk V6 ny #[.slice py Y.path.length cy, .string Y.id, .string Y.title, .string Y.link, .int .i64 Y.upd, .slice none 0 0] 30 := by rw [hV6]; exact mblk_set6 M5_ny _ _ _ _ _ _
          have M6_nz := (show MBlk V6 nz _ _ by rw [hV6]; exact mq_far6 M5_nz (by first | exact Qnzny | exact fun e => Qnynz e.symm) _ _ _ _ _ _)
          have N6_py : NamAt V6 py Y.path := by rw [hV6]; exact mq_namfar6 N5_py Ppyny _ _ _ _ _ _
          have N6_pz : NamAt V6 pz Y.path := by rw [hV6]; exact mq_namfar6 N5_pz Ppzny _ _ _ _ _ _
          have D6 : Below Wd.heap.size Wd V6 := by rw [hV6]; exact mq_belowset6 D5 Gny _ _ _ _ _ _
          have SD6 := HSI.out _ _ D6 SD0
          simp only [← hV6]
          refine hK _ _ SD6 ?_
          clear hK K' hV6 D5 SD5 M5_ny M5_nz N5_py N5_pz r0 t0 r1 t1 r2 t2 r3 t3 r4 t4 r5 t5
          try simp only [Act.put, List.setIfInBounds_toArray, List.set_cons_zero, List.set_cons_succ]
          refine anyL_ready (rs := [11]) (by kernel_rfl) (by simp) ?_
          refine AllL.cons (o := mqC11) rfl (fun K' hK => ?_) AllL.nil
          rw [if_pos (by rfl)]
          unfold mqC11
          have r0 := M6_nz.cell 0
          have t0 := M6_nz.fr 0
          have r1 := M6_nz.cell 1
          have t1 := M6_nz.fr 1
          have r2 := M6_nz.cell 2
          have t2 := M6_nz.fr 2
          have r3 := M6_nz.cell 3
          have t3 := M6_nz.fr 3
          have r4 := M6_nz.cell 4
          have t4 := M6_nz.fr 4
          have r5 := M6_nz.cell 5
          have t5 := M6_nz.fr 5
          simp only [List.getElem?_toArray, List.getElem?_cons_zero, List.getElem?_cons_succ] at r0 r1 r2 r3 r4 r5
          go_simp
          obtain ⟨V7, hV7⟩ : ∃ V, V = ((((((V6.setCell ⟨nz, 0, none⟩ (.slice pz Y.path.length cz)).setCell ⟨nz, 1, none⟩ (.string Y.id)).setCell ⟨nz, 2, none⟩ (.string Y.title)).setCell ⟨nz, 3, none⟩ (.string Y.link)).setCell ⟨nz, 4, none⟩ (.int .i64 Y.upd)).setCell ⟨nz, 5, none⟩ (.slice none 0 0)) := ⟨_, rfl⟩
          have M7_nz : MBlk V7 nz #[.slice pz Y.path.length cz, .string Y.id, .string Y.title, .string Y.link, .int .i64 Y.upd, .slice none 0 0] 30 := by rw [hV7]; exact mblk_set6 M6_nz _ _ _ _ _ _
          have M7_ny := (show MBlk V7 ny _ _ by rw [hV7]; exact mq_far6 M6_ny (by first | exact Qnynz | exact fun e => Qnzny e.symm) _ _ _ _ _ _)
          have N7_py : NamAt V7 py Y.path := by rw [hV7]; exact mq_namfar6 N6_py Ppynz _ _ _ _ _ _
          have N7_pz : NamAt V7 pz Y.path := by rw [hV7]; exact mq_namfar6 N6_pz Ppznz _ _ _ _ _ _
          have D7 : Below Wd.heap.size Wd V7 := by rw [hV7]; exact mq_belowset6 D6 Gnz _ _ _ _ _ _
          have SD7 := HSI.out _ _ D7 SD0
          simp only [← hV7]
          refine hK _ _ SD7 ?_
          clear hK K' hV7 D6 SD6 M6_ny M6_nz N6_py N6_pz r0 t0 r1 t1 r2 t2 r3 t3 r4 t4 r5 t5
          try simp only [Act.put, List.setIfInBounds_toArray, List.set_cons_zero, List.set_cons_succ]
          refine anyL_done (by kernel_rfl) ?_ _
          go_wp2
          go_meet
          exact ⟨ny, nz, py, cy, pz, cz, rfl, rfl, M7_ny, M7_nz, N7_py, N7_pz, SD7, HD.out.trans (D7.mono HD.out.size)⟩
      · rw [if_pos (by rfl)]
        unfold mqC9
        go_simp
        obtain ⟨V2, hV2⟩ : ∃ V, V = V1.alloc (.cells #[.slice none 0 0, .string ⟨#[]⟩, .string ⟨#[]⟩, .string ⟨#[]⟩, .int .i64 0, .slice none 0 0] 30) := ⟨_, rfl⟩
        obtain ⟨nz, hnz⟩ : ∃ n, n = V1.heap.size := ⟨_, rfl⟩
        have bb : Below V1.heap.size V1 V2 := by rw [hV2]; exact (Below.refl _ _).alloc (Nat.le_refl _) _
        have M2_nz : MBlk V2 nz #[.slice none 0 0, .string ⟨#[]⟩, .string ⟨#[]⟩, .string ⟨#[]⟩, .int .i64 0, .slice none 0 0] 30 := by rw [hV2, hnz]; exact heap_alloc_new _ _
        have M2_ny := M1_ny.more bb
        have Qnynz : ny ≠ nz := by have := M1_ny.lt; omega
        have D2 : Below Wd.heap.size Wd V2 := D1.trans (bb.mono D1.size)
        have Gnz : Wd.heap.size ≤ nz := by rw [hnz]; exact D1.size
        have SD2 := HSI.out _ _ D2 SD0
        simp only [← hV2, ← hnz]
        refine hK _ _ SD2 ?_
        clear hK K' hV2 hnz bb D1 SD1 M1_ny
        try simp only [Act.put, List.setIfInBounds_toArray, List.set_cons_zero, List.set_cons_succ]
        refine anyL_ready (rs := [2]) (by kernel_rfl) (by simp) ?_
        refine AllL.cons (o := mqC2) rfl (fun K' hK => ?_) AllL.nil
        rw [if_pos (by rfl)]
        unfold mqC2
        go_simp
        go_at_call 14
        refine (qk3.out _ _ (qup.out _ (HD.out.trans (D2.mono HD.out.size))) (HXF.out.below (HD.out.trans (D2.mono HD.out.size)))).mono ?_
        rintro e3 V3 ⟨py, cy, rfl, ho, bb⟩
        have M3_ny := M2_ny.more bb
        have M3_nz := M2_nz.more bb
        have N3_py := mq_nam ho
        have hrow := mq_row ho
        have U3_py : ∀ ad, py = some ad → 0 < Y.path.length → ad.block < V3.heap.size := fun ad h1 h2 => (hrow ad h1 h2).2
        have Ppyny : ∀ ad, py = some ad → 0 < Y.path.length → ad.block ≠ ny := fun ad h1 h2 => by have := (hrow ad h1 h2).1; have := M2_ny.lt; omega
        have Ppynz : ∀ ad, py = some ad → 0 < Y.path.length → ad.block ≠ nz := fun ad h1 h2 => by have := (hrow ad h1 h2).1; have := M2_nz.lt; omega
        have D3 : Below Wd.heap.size Wd V3 := D2.trans (bb.mono D2.size)
        have SD3 := HSI.out _ _ D3 SD0
        refine hK _ _ SD3 ?_
        clear hK K' bb ho hrow D2 SD2 M2_ny M2_nz
        try simp only [Act.put, List.setIfInBounds_toArray, List.set_cons_zero, List.set_cons_succ]
        refine anyL_ready (rs := [6]) (by kernel_rfl) (by simp) ?_
        refine AllL.cons (o := mqC6) rfl (fun K' hK => ?_) AllL.nil
        rw [if_pos (by rfl)]
        unfold mqC6
        go_simp
        go_at_call 14
        refine (qk4.out _ (qup.out _ (HD.out.trans (D3.mono HD.out.size)))).mono ?_
        rintro e4 V4 ⟨pb, cb, rfl, ho, bb⟩
        have M4_ny := M3_ny.more bb
        have M4_nz := M3_nz.more bb
        have N4_py := N3_py.below bb
        have U4_py : ∀ ad, py = some ad → 0 < Y.path.length → ad.block < V4.heap.size := fun ad h1 h2 => Nat.lt_of_lt_of_le (U3_py ad h1 h2) bb.size
        have F4 := later_is ho qBe.out
        have D4 : Below Wd.heap.size Wd V4 := D3.trans (bb.mono D3.size)
        have SD4 := HSI.out _ _ D4 SD0
        refine hK _ _ SD4 ?_
        clear hK K' bb ho  D3 SD3 M3_ny M3_nz N3_py U3_py
        try simp only [Act.put, List.setIfInBounds_toArray, List.set_cons_zero, List.set_cons_succ]
        refine anyL_ready (rs := [7]) (by kernel_rfl) (by simp) ?_
        refine AllL.cons (o := mqC7) rfl (fun K' hK => ?_) AllL.nil
        rw [if_pos (by rfl)]
        unfold mqC7
        go_simp
        go_at_call 14
        refine (qk5.out _ _ (qup.out _ (HD.out.trans (D4.mono HD.out.size))) F4).mono ?_
        rintro e5 V5 ⟨pz, cz, rfl, ho, bb⟩
        have M5_ny := M4_ny.more bb
        have M5_nz := M4_nz.more bb
        have N5_py := N4_py.below bb
        have U5_py : ∀ ad, py = some ad → 0 < Y.path.length → ad.block < V5.heap.size := fun ad h1 h2 => Nat.lt_of_lt_of_le (U4_py ad h1 h2) bb.size
        have F5 := F4.below bb
        have N5_pz := mq_nam ho
        have hrow := mq_row ho
        have U5_pz : ∀ ad, pz = some ad → 0 < Y.path.length → ad.block < V5.heap.size := fun ad h1 h2 => (hrow ad h1 h2).2
        have Ppzny : ∀ ad, pz = some ad → 0 < Y.path.length → ad.block ≠ ny := fun ad h1 h2 => by have := (hrow ad h1 h2).1; have := M4_ny.lt; omega
        have Ppznz : ∀ ad, pz = some ad → 0 < Y.path.length → ad.block ≠ nz := fun ad h1 h2 => by have := (hrow ad h1 h2).1; have := M4_nz.lt; omega
        have D5 : Below Wd.heap.size Wd V5 := D4.trans (bb.mono D4.size)
        have SD5 := HSI.out _ _ D5 SD0
        refine hK _ _ SD5 ?_
        clear hK K' bb ho hrow D4 SD4 M4_ny M4_nz N4_py F4 U4_py
        try simp only [Act.put, List.setIfInBounds_toArray, List.set_cons_zero, List.set_cons_succ]
        refine anyL_ready (rs := [10]) (by kernel_rfl) (by simp) ?_
        refine AllL.cons (o := mqC10) rfl (fun K' hK => ?_) AllL.nil
        rw [if_pos (by rfl)]
        unfold mqC10
        have r0 := M5_ny.cell 0
        have t0 := M5_ny.fr 0
        have r1 := M5_ny.cell 1
        have t1 := M5_ny.fr 1
        have r2 := M5_ny.cell 2
        have t2 := M5_ny.fr 2
        have r3 := M5_ny.cell 3
        have t3 := M5_ny.fr 3
        have r4 := M5_ny.cell 4
        have t4 := M5_ny.fr 4
        have r5 := M5_ny.cell 5
        have t5 := M5_ny.fr 5
        simp only [List.getElem?_toArray, List.getElem?_cons_zero, List.getElem?_cons_succ] at r0 r1 r2 r3 r4 r5
        go_simp
        obtain ⟨V6, hV6⟩ : ∃ V, V = ((((((V5.setCell ⟨ny, 0, none⟩ (.slice py Y.path.length cy)).setCell ⟨ny, 1, none⟩ (.string Y.id)).setCell ⟨ny, 2, none⟩ (.string Y.title)).setCell ⟨ny, 3, none⟩ (.string Y.link)).setCell ⟨ny, 4, none⟩ (.int .i64 Y.upd)).setCell ⟨ny, 5, none⟩ (.slice none 0 0)) := ⟨_, rfl⟩
        have M6_ny : MBlk V6 ny #[.slice py Y.path.length cy, .string Y.id, .string Y.title, .string Y.link, .int .i64 Y.upd, .slice none 0 0] 30 := by rw [hV6]; exact mblk_set6 M5_ny _ _ _ _ _ _
        have M6_nz := (show MBlk V6 nz _ _ by rw [hV6]; exact mq_far6 M5_nz (by first | exact Qnzny | exact fun e => Qnynz e.symm) _ _ _ _ _ _)
        have N6_py : NamAt V6 py Y.path := by rw [hV6]; exact mq_namfar6 N5_py Ppyny _ _ _ _ _ _
        have N6_pz : NamAt V6 pz Y.path := by rw [hV6]; exact mq_namfar6 N5_pz Ppzny _ _ _ _ _ _
        have D6 : Below Wd.heap.size Wd V6 := by rw [hV6]; exact mq_belowset6 D5 Gny _ _ _ _ _ _
        have SD6 := HSI.out _ _ D6 SD0
        simp only [← hV6]
        refine hK _ _ SD6 ?_
        clear hK K' hV6 D5 SD5 M5_ny M5_nz N5_py N5_pz r0 t0 r1 t1 r2 t2 r3 t3 r4 t4 r5 t5
        try simp only [Act.put, List.setIfInBounds_toArray, List.set_cons_zero, List.set_cons_succ]
        refine anyL_ready (rs := [11]) (by kernel_rfl) (by simp) ?_
        refine AllL.cons (o := mqC11) rfl (fun K' hK => ?_) AllL.nil
        rw [if_pos (by rfl)]
        unfold mqC11
        have r0 := M6_nz.cell 0
        have t0 := M6_nz.fr 0
        have r1 := M6_nz.cell 1
        have t1 := M6_nz.fr 1
        have r2 := M6_nz.cell 2
        have t2 := M6_nz.fr 2
        have r3 := M6_nz.cell 3
        have t3 := M6_nz.fr 3
        have r4 := M6_nz.cell 4
        have t4 := M6_nz.fr 4
        have r5 := M6_nz.cell 5
        have t5 := M6_nz.fr 5
        simp only [List.getElem?_toArray, List.getElem?_cons_zero, List.getElem?_cons_succ] at r0 r1 r2 r3 r4 r5
        go_simp
        obtain ⟨V7, hV7⟩ : ∃ V, V = ((((((V6.setCell ⟨nz, 0, none⟩ (.slice pz Y.path.length cz)).setCell ⟨nz, 1, none⟩ (.string Y.id)).setCell ⟨nz, 2, none⟩ (.string Y.title)).setCell ⟨nz, 3, none⟩ (.string Y.link)).setCell ⟨nz, 4, none⟩ (.int .i64 Y.upd)).setCell ⟨nz, 5, none⟩ (.slice none 0 0)) := ⟨_, rfl⟩
        have M7_nz : MBlk V7 nz #[.slice pz Y.path.length cz, .string Y.id, .string Y.title, .string Y.link, .int .i64 Y.upd, .slice none 0 0] 30 := by rw [hV7]; exact mblk_set6 M6_nz _ _ _ _ _ _
        have M7_ny := (show MBlk V7 ny _ _ by rw [hV7]; exact mq_far6 M6_ny (by first | exact Qnynz | exact fun e => Qnzny e.symm) _ _ _ _ _ _)
        have N7_py : NamAt V7 py Y.path := by rw [hV7]; exact mq_namfar6 N6_py Ppynz _ _ _ _ _ _
        have N7_pz : NamAt V7 pz Y.path := by rw [hV7]; exact mq_namfar6 N6_pz Ppznz _ _ _ _ _ _
        have D7 : Below Wd.heap.size Wd V7 := by rw [hV7]; exact mq_belowset6 D6 Gnz _ _ _ _ _ _
        have SD7 := HSI.out _ _ D7 SD0
        simp only [← hV7]
        refine hK _ _ SD7 ?_
        clear hK K' hV7 D6 SD6 M6_ny M6_nz N6_py N6_pz r0 t0 r1 t1 r2 t2 r3 t3 r4 t4 r5 t5
        try simp only [Act.put, List.setIfInBounds_toArray, List.set_cons_zero, List.set_cons_succ]
        refine anyL_done (by kernel_rfl) ?_ _
        go_wp2
        go_meet
        exact ⟨ny, nz, py, cy, pz, cz, rfl, rfl, M7_ny, M7_nz, N7_py, N7_pz, SD7, HD.out.trans (D7.mono HD.out.size)⟩
    · rw [if_pos (by rfl)]
      unfold mqC9
      go_simp
      obtain ⟨V1, hV1⟩ : ∃ V, V = Wd.alloc (.cells #[.slice none 0 0, .string ⟨#[]⟩, .string ⟨#[]⟩, .string ⟨#[]⟩, .int .i64 0, .slice none 0 0] 30) := ⟨_, rfl⟩
      obtain ⟨nz, hnz⟩ : ∃ n, n = Wd.heap.size := ⟨_, rfl⟩
      have bb : Below Wd.heap.size Wd V1 := by rw [hV1]; exact (Below.refl _ _).alloc (Nat.le_refl _) _
      have M1_nz : MBlk V1 nz #[.slice none 0 0, .string ⟨#[]⟩, .string ⟨#[]⟩, .string ⟨#[]⟩, .int .i64 0, .slice none 0 0] 30 := by rw [hV1, hnz]; exact heap_alloc_new _ _
      have D1 : Below Wd.heap.size Wd V1 := D0.trans (bb.mono D0.size)
      have Gnz : Wd.heap.size ≤ nz := by rw [hnz]; exact D0.size
      have SD1 := HSI.out _ _ D1 SD0
      simp only [← hV1, ← hnz]
      refine hK _ _ SD1 ?_
      clear hK K' hV1 hnz bb D0  
      try simp only [Act.put, List.setIfInBounds_toArray, List.set_cons_zero, List.set_cons_succ]
      refine anyL_ready (rs := [2, 8]) (by kernel_rfl) (by simp) ?_
      refine AllL.cons (o := mqC2) rfl (fun K' hK => ?_) (AllL.cons (o := mqC8) rfl (fun K' hK => ?_) AllL.nil)
      · rw [if_pos (by rfl)]
        unfold mqC2
        go_simp
        go_at_call 14
        refine (qk3.out _ _ (qup.out _ (HD.out.trans (D1.mono HD.out.size))) (HXF.out.below (HD.out.trans (D1.mono HD.out.size)))).mono ?_
        rintro e2 V2 ⟨py, cy, rfl, ho, bb⟩
        have M2_nz := M1_nz.more bb
        have N2_py := mq_nam ho
        have hrow := mq_row ho
        have U2_py : ∀ ad, py = some ad → 0 < Y.path.length → ad.block < V2.heap.size := fun ad h1 h2 => (hrow ad h1 h2).2
        have Ppynz : ∀ ad, py = some ad → 0 < Y.path.length → ad.block ≠ nz := fun ad h1 h2 => by have := (hrow ad h1 h2).1; have := M1_nz.lt; omega
        have D2 : Below Wd.heap.size Wd V2 := D1.trans (bb.mono D1.size)
        have SD2 := HSI.out _ _ D2 SD0
        refine hK _ _ SD2 ?_
        clear hK K' bb ho hrow D1 SD1 M1_nz
        try simp only [Act.put, List.setIfInBounds_toArray, List.set_cons_zero, List.set_cons_succ]
        refine anyL_ready (rs := [6, 8]) (by kernel_rfl) (by simp) ?_
        refine AllL.cons (o := mqC6) rfl (fun K' hK => ?_) (AllL.cons (o := mqC8) rfl (fun K' hK => ?_) AllL.nil)
        · rw [if_pos (by rfl)]
          unfold mqC6
          go_simp
          go_at_call 14
          refine (qk4.out _ (qup.out _ (HD.out.trans (D2.mono HD.out.size)))).mono ?_
          rintro e3 V3 ⟨pb, cb, rfl, ho, bb⟩
          have M3_nz := M2_nz.more bb
          have N3_py := N2_py.below bb
          have U3_py : ∀ ad, py = some ad → 0 < Y.path.length → ad.block < V3.heap.size := fun ad h1 h2 => Nat.lt_of_lt_of_le (U2_py ad h1 h2) bb.size
          have F3 := later_is ho qBe.out
          have D3 : Below Wd.heap.size Wd V3 := D2.trans (bb.mono D2.size)
          have SD3 := HSI.out _ _ D3 SD0
          refine hK _ _ SD3 ?_
          clear hK K' bb ho  D2 SD2 M2_nz N2_py U2_py
          try simp only [Act.put, List.setIfInBounds_toArray, List.set_cons_zero, List.set_cons_succ]
          refine anyL_ready (rs := [7, 8]) (by kernel_rfl) (by simp) ?_
          refine AllL.cons (o := mqC7) rfl (fun K' hK => ?_) (AllL.cons (o := mqC8) rfl (fun K' hK => ?_) AllL.nil)
          · rw [if_pos (by rfl)]
            unfold mqC7
            go_simp
            go_at_call 14
            refine (qk5.out _ _ (qup.out _ (HD.out.trans (D3.mono HD.out.size))) F3).mono ?_
            rintro e4 V4 ⟨pz, cz, rfl, ho, bb⟩
            have M4_nz := M3_nz.more bb
            have N4_py := N3_py.below bb
            have U4_py : ∀ ad, py = some ad → 0 < Y.path.length → ad.block < V4.heap.size := fun ad h1 h2 => Nat.lt_of_lt_of_le (U3_py ad h1 h2) bb.size
            have F4 := F3.below bb
            have N4_pz := mq_nam ho
            have hrow := mq_row ho
            have U4_pz : ∀ ad, pz = some ad → 0 < Y.path.length → ad.block < V4.heap.size := fun ad h1 h2 => (hrow ad h1 h2).2
            have Ppznz : ∀ ad, pz = some ad → 0 < Y.path.length → ad.block ≠ nz := fun ad h1 h2 => by have := (hrow ad h1 h2).1; have := M3_nz.lt; omega
            have D4 : Below Wd.heap.size Wd V4 := D3.trans (bb.mono D3.size)
            have SD4 := HSI.out _ _ D4 SD0
            refine hK _ _ SD4 ?_
            clear hK K' bb ho hrow D3 SD3 M3_nz N3_py F3 U3_py
            try simp only [Act.put, List.setIfInBounds_toArray, List.set_cons_zero, List.set_cons_succ]
            refine anyL_ready (rs := [8]) (by kernel_rfl) (by simp) ?_
            refine AllL.cons (o := mqC8) rfl (fun K' hK => ?_) AllL.nil
            rw [if_pos (by rfl)]
            unfold mqC8
            go_simp
            obtain ⟨V5, hV5⟩ : ∃ V, V = V4.alloc (.cells #[.slice none 0 0, .string ⟨#[]⟩, .string ⟨#[]⟩, .string ⟨#[]⟩, .int .i64 0, .slice none 0 0] 30) := ⟨_, rfl⟩
            obtain ⟨ny, hny⟩ : ∃ n, n = V4.heap.size := ⟨_, rfl⟩
            have bb : Below V4.heap.size V4 V5 := by rw [hV5]; exact (Below.refl _ _).alloc (Nat.le_refl _) _
            have M5_ny : MBlk V5 ny #[.slice none 0 0, .string ⟨#[]⟩, .string ⟨#[]⟩, .string ⟨#[]⟩, .int .i64 0, .slice none 0 0] 30 := by rw [hV5, hny]; exact heap_alloc_new _ _
            have M5_nz := M4_nz.more bb
            have N5_py := N4_py.below bb
            have U5_py : ∀ ad, py = some ad → 0 < Y.path.length → ad.block < V5.heap.size := fun ad h1 h2 => Nat.lt_of_lt_of_le (U4_py ad h1 h2) bb.size
            have N5_pz := N4_pz.below bb
            have U5_pz : ∀ ad, pz = some ad → 0 < Y.path.length → ad.block < V5.heap.size := fun ad h1 h2 => Nat.lt_of_lt_of_le (U4_pz ad h1 h2) bb.size
            have F5 := F4.below bb
            have Qnzny : nz ≠ ny := by have := M4_nz.lt; omega
            have Ppyny : ∀ ad, py = some ad → 0 < Y.path.length → ad.block ≠ ny := fun ad h1 h2 => by have := U4_py ad h1 h2; omega
            have Ppzny : ∀ ad, pz = some ad → 0 < Y.path.length → ad.block ≠ ny := fun ad h1 h2 => by have := U4_pz ad h1 h2; omega
            have D5 : Below Wd.heap.size Wd V5 := D4.trans (bb.mono D4.size)
            have Gny : Wd.heap.size ≤ ny := by rw [hny]; exact D4.size
            have SD5 := HSI.out _ _ D5 SD0
            simp only [← hV5, ← hny]
            refine hK _ _ SD5 ?_
            clear hK K' hV5 hny bb D4 SD4 M4_nz N4_py N4_pz F4 U4_py U4_pz
            try simp only [Act.put, List.setIfInBounds_toArray, List.set_cons_zero, List.set_cons_succ]
            refine anyL_ready (rs := [10]) (by kernel_rfl) (by simp) ?_
            refine AllL.cons (o := mqC10) rfl (fun K' hK => ?_) AllL.nil
            rw [if_pos (by rfl)]
            unfold mqC10
            have r0 := M5_ny.cell 0
            have t0 := M5_ny.fr 0
            have r1 := M5_ny.cell 1
            have t1 := M5_ny.fr 1
            have r2 := M5_ny.cell 2
            have t2 := M5_ny.fr 2
            have r3 := M5_ny.cell 3
            have t3 := M5_ny.fr 3
            have r4 := M5_ny.cell 4
            have t4 := M5_ny.fr 4
            have r5 := M5_ny.cell 5
            have t5 := M5_ny.fr 5
            simp only [List.getElem?_toArray, List.getElem?_cons_zero, List.getElem?_cons_succ] at r0 r1 r2 r3 r4 r5
            go_simp
            obtain ⟨V6, hV6⟩ : ∃ V, V = ((((((V5.setCell ⟨ny, 0, none⟩ (.slice py Y.path.length cy)).setCell ⟨ny, 1, none⟩ (.string Y.id)).setCell ⟨ny, 2, none⟩ (.string Y.title)).setCell ⟨ny, 3, none⟩ (.string Y.link)).setCell ⟨ny, 4, none⟩ (.int .i64 Y.upd)).setCell ⟨ny, 5, none⟩ (.slice none 0 0)) := ⟨_, rfl⟩
            have M6_ny : MBlk V6 ny #[.slice py Y.path.length cy, .string Y.id, .string Y.title, .string Y.link, .int .i64 Y.upd, .slice none 0 0] 30 := by rw [hV6]; exact mblk_set6 M5_ny _ _ _ _ _ _
            have M6_nz := (show MBlk V6 nz _ _ by rw [hV6]; exact mq_far6 M5_nz (by first | exact Qnzny | exact fun e => Qnynz e.symm) _ _ _ _ _ _)
            have N6_py : NamAt V6 py Y.path := by rw [hV6]; exact mq_namfar6 N5_py Ppyny _ _ _ _ _ _
            have N6_pz : NamAt V6 pz Y.path := by rw [hV6]; exact mq_namfar6 N5_pz Ppzny _ _ _ _ _ _
            have D6 : Below Wd.heap.size Wd V6 := by rw [hV6]; exact mq_belowset6 D5 Gny _ _ _ _ _ _
            have SD6 := HSI.out _ _ D6 SD0
            simp only [← hV6]
            refine hK _ _ SD6 ?_
            clear hK K' hV6 D5 SD5 M5_ny M5_nz N5_py N5_pz r0 t0 r1 t1 r2 t2 r3 t3 r4 t4 r5 t5
            try simp only [Act.put, List.setIfInBounds_toArray, List.set_cons_zero, List.set_cons_succ]
            refine anyL_ready (rs := [11]) (by kernel_rfl) (by simp) ?_
            refine AllL.cons (o := mqC11) rfl (fun K' hK => ?_) AllL.nil
            rw [if_pos (by rfl)]
            unfold mqC11
            have r0 := M6_nz.cell 0
            have t0 := M6_nz.fr 0
            have r1 := M6_nz.cell 1
            have t1 := M6_nz.fr 1
            have r2 := M6_nz.cell 2
            have t2 := M6_nz.fr 2
            have r3 := M6_nz.cell 3
            have t3 := M6_nz.fr 3
            have r4 := M6_nz.cell 4
            have t4 := M6_nz.fr 4
            have r5 := M6_nz.cell 5
            have t5 := M6_nz.fr 5
            simp only [List.getElem?_toArray, List.getElem?_cons_zero, List.getElem?_cons_succ] at r0 r1 r2 r3 r4 r5
            go_simp
            obtain ⟨V7, hV7⟩ : ∃ V, V = ((((((V6.setCell ⟨nz, 0, none⟩ (.slice pz Y.path.length cz)).setCell ⟨nz, 1, none⟩ (.string Y.id)).setCell ⟨nz, 2, none⟩ (.string Y.title)).setCell ⟨nz, 3, none⟩ (.string Y.link)).setCell ⟨nz, 4, none⟩ (.int .i64 Y.upd)).setCell ⟨nz, 5, none⟩ (.slice none 0 0)) := ⟨_, rfl⟩
            have M7_nz : MBlk V7 nz #[.slice pz Y.path.length cz, .string Y.id, .string Y.title, .string Y.link, .int .i64 Y.upd, .slice none 0 0] 30 := by rw [hV7]; exact mblk_set6 M6_nz _ _ _ _ _ _
            have M7_ny := (show MBlk V7 ny _ _ by rw [hV7]; exact mq_far6 M6_ny (by first | exact Qnynz | exact fun e => Qnzny e.symm) _ _ _ _ _ _)
            have N7_py : NamAt V7 py Y.path := by rw [hV7]; exact mq_namfar6 N6_py Ppynz _ _ _ _ _ _
            have N7_pz : NamAt V7 pz Y.path := by rw [hV7]; exact mq_namfar6 N6_pz Ppznz _ _ _ _ _ _
            have D7 : Below Wd.heap.size Wd V7 := by rw [hV7]; exact mq_belowset6 D6 Gnz _ _ _ _ _ _
            have SD7 := HSI.out _ _ D7 SD0
            simp only [← hV7]
            refine hK _ _ SD7 ?_
            clear hK K' hV7 D6 SD6 M6_ny M6_nz N6_py N6_pz r0 t0 r1 t1 r2 t2 r3 t3 r4 t4 r5 t5
            try simp only [Act.put, List.setIfInBounds_toArray, List.set_cons_zero, List.set_cons_succ]
            refine anyL_done (by kernel_rfl) ?_ _
            go_wp2
            go_meet
            exact ⟨ny, nz, py, cy, pz, cz, rfl, rfl, M7_ny, M7_nz, N7_py, N7_pz, SD7, HD.out.trans (D7.mono HD.out.size)⟩
          · rw [if_pos (by rfl)]
            unfold mqC8
            go_simp
            obtain ⟨V4, hV4⟩ : ∃ V, V = V3.alloc (.cells #[.slice none 0 0, .string ⟨#[]⟩, .string ⟨#[]⟩, .string ⟨#[]⟩, .int .i64 0, .slice none 0 0] 30) := ⟨_, rfl⟩
            obtain ⟨ny, hny⟩ : ∃ n, n = V3.heap.size := ⟨_, rfl⟩
            have bb : Below V3.heap.size V3 V4 := by rw [hV4]; exact (Below.refl _ _).alloc (Nat.le_refl _) _
            have M4_ny : MBlk V4 ny #[.slice none 0 0, .string ⟨#[]⟩, .string ⟨#[]⟩, .string ⟨#[]⟩, .int .i64 0, .slice none 0 0] 30 := by rw [hV4, hny]; exact heap_alloc_new _ _
            have M4_nz := M3_nz.more bb
            have N4_py := N3_py.below bb
            have U4_py : ∀ ad, py = some ad → 0 < Y.path.length → ad.block < V4.heap.size := fun ad h1 h2 => Nat.lt_of_lt_of_le (U3_py ad h1 h2) bb.size
            have F4 := F3.below bb
            have Qnzny : nz ≠ ny := by have := M3_nz.lt; omega
            have Ppyny : ∀ ad, py = some ad → 0 < Y.path.length → ad.block ≠ ny := fun ad h1 h2 => by have := U3_py ad h1 h2; omega
            have D4 : Below Wd.heap.size Wd V4 := D3.trans (bb.mono D3.size)
            have Gny : Wd.heap.size ≤ ny := by rw [hny]; exact D3.size
            have SD4 := HSI.out _ _ D4 SD0
            simp only [← hV4, ← hny]
            refine hK _ _ SD4 ?_
            clear hK K' hV4 hny bb D3 SD3 M3_nz N3_py F3 U3_py
            try simp only [Act.put, List.setIfInBounds_toArray, List.set_cons_zero, List.set_cons_succ]
            refine anyL_ready (rs := [7]) (by kernel_rfl) (by simp) ?_
            refine AllL.cons (o := mqC7) rfl (fun K' hK => ?_) AllL.nil
            rw [if_pos (by rfl)]
            unfold mqC7
            go_simp
            go_at_call 14
            refine (qk5.out _ _ (qup.out _ (HD.out.trans (D4.mono HD.out.size))) F4).mono ?_
            rintro e5 V5 ⟨pz, cz, rfl, ho, bb⟩
            have M5_nz := M4_nz.more bb
            have M5_ny := M4_ny.more bb
            have N5_py := N4_py.below bb
            have U5_py : ∀ ad, py = some ad → 0 < Y.path.length → ad.block < V5.heap.size := fun ad h1 h2 => Nat.lt_of_lt_of_le (U4_py ad h1 h2) bb.size
            have F5 := F4.below bb
            have N5_pz := mq_nam ho
            have hrow := mq_row ho
            have U5_pz : ∀ ad, pz = some ad → 0 < Y.path.length → ad.block < V5.heap.size := fun ad h1 h2 => (hrow ad h1 h2).2
            have Ppznz : ∀ ad, pz = some ad → 0 < Y.path.length → ad.block ≠ nz := fun ad h1 h2 => by have := (hrow ad h1 h2).1; have := M4_nz.lt; omega
            have Ppzny : ∀ ad, pz = some ad → 0 < Y.path.length → ad.block ≠ ny := fun ad h1 h2 => by have := (hrow ad h1 h2).1; have := M4_ny.lt; omega
            have D5 : Below Wd.heap.size Wd V5 := D4.trans (bb.mono D4.size)
            have SD5 := HSI.out _ _ D5 SD0
            refine hK _ _ SD5 ?_
            clear hK K' bb ho hrow D4 SD4 M4_nz M4_ny N4_py F4 U4_py
            try simp only [Act.put, List.setIfInBounds_toArray, List.set_cons_zero, List.set_cons_succ]
            refine anyL_ready (rs := [10]) (by kernel_rfl) (by simp) ?_
            refine AllL.cons (o := mqC10) rfl (fun K' hK => ?_) AllL.nil
            rw [if_pos (by rfl)]
            unfold mqC10
            have r0 := M5_ny.cell 0
            have t0 := M5_ny.fr 0
            have r1 := M5_ny.cell 1
            have t1 := M5_ny.fr 1
            have r2 := M5_ny.cell 2
            have t2 := M5_ny.fr 2
            have r3 := M5_ny.cell 3
            have t3 := M5_ny.fr 3
            have r4 := M5_ny.cell 4
            have t4 := M5_ny.fr 4
            have r5 := M5_ny.cell 5
            have t5 := M5_ny.fr 5
            simp only [List.getElem?_toArray, List.getElem?_cons_zero, List.getElem?_cons_succ] at r0 r1 r2 r3 r4 r5
            go_simp
            obtain ⟨V6, hV6⟩ : ∃ V, V = ((((((V5.setCell ⟨ny, 0, none⟩ (.slice py Y.path.length cy)).setCell ⟨ny, 1, none⟩ (.string Y.id)).setCell ⟨ny, 2, none⟩ (.string Y.title)).setCell ⟨ny, 3, none⟩ (.string Y.link)).setCell ⟨ny, 4, none⟩ (.int .i64 Y.upd)).setCell ⟨ny, 5, none⟩ (.slice none 0 0)) := ⟨_, rfl⟩
            have M6_ny : MBlk V6 ny #[.slice py Y.path.length cy, .string Y.id, .string Y.title, .string Y.link, .int .i64 Y.upd, .slice none 0 0] 30 := by rw [hV6]; exact mblk_set6 M5_ny _ _ _ _ _ _
            have M6_nz := (show MBlk V6 nz _ _ by rw [hV6]; exact mq_far6 M5_nz (by first | exact Qnzny | exact fun e => Qnynz e.symm) _ _ _ _ _ _)
            have N6_py : NamAt V6 py Y.path := by rw [hV6]; exact mq_namfar6 N5_py Ppyny _ _ _ _ _ _
            have N6_pz : NamAt V6 pz Y.path := by rw [hV6]; exact mq_namfar6 N5_pz Ppzny _ _ _ _ _ _
            have D6 : Below Wd.heap.size Wd V6 := by rw [hV6]; exact mq_belowset6 D5 Gny _ _ _ _ _ _
            have SD6 := HSI.out _ _ D6 SD0
            simp only [← hV6]
            refine hK _ _ SD6 ?_
            clear hK K' hV6 D5 SD5 M5_ny M5_nz N5_py N5_pz r0 t0 r1 t1 r2 t2 r3 t3 r4 t4 r5 t5
            try simp only [Act.put, List.setIfInBounds_toArray, List.set_cons_zero, List.set_cons_succ]
            refine anyL_ready (rs := [11]) (by kernel_rfl) (by simp) ?_
            refine AllL.cons (o := mqC11) rfl (fun K' hK => ?_) AllL.nil
            rw [if_pos (by rfl)]
            unfold mqC11
            have r0 := M6_nz.cell 0
            have t0 := M6_nz.fr 0
            have r1 := M6_nz.cell 1
            have t1 := M6_nz.fr 1
            have r2 := M6_nz.cell 2
            have t2 := M6_nz.fr 2
            have r3 := M6_nz.cell 3
            have t3 := M6_nz.fr 3
            have r4 := M6_nz.cell 4
            have t4 := M6_nz.fr 4
            have r5 := M6_nz.cell 5
            have t5 := M6_nz.fr 5
            simp only [List.getElem?_toArray, List.getElem?_cons_zero, List.getElem?_cons_succ] at r0 r1 r2 r3 r4 r5
            go_simp
            obtain ⟨V7, hV7⟩ : ∃ V, V = ((((((V6.setCell ⟨nz, 0, none⟩ (.slice pz Y.path.length cz)).setCell ⟨nz, 1, none⟩ (.string Y.id)).setCell ⟨nz, 2, none⟩ (.string Y.title)).setCell ⟨nz, 3, none⟩ (.string Y.link)).setCell ⟨nz, 4, none⟩ (.int .i64 Y.upd)).setCell ⟨nz, 5, none⟩ (.slice none 0 0)) := ⟨_, rfl⟩
            have M7_nz : MBlk V7 nz #[.slice pz Y.path.length cz, .string Y.id, .string Y.title, .string Y.link, .int .i64 Y.upd, .slice none 0 0] 30 := by rw [hV7]; exact mblk_set6 M6_nz _ _ _ _ _ _
            have M7_ny := (show MBlk V7 ny _ _ by rw [hV7]; exact mq_far6 M6_ny (by first | exact Qnynz | exact fun e => Qnzny e.symm) _ _ _ _ _ _)
            have N7_py : NamAt V7 py Y.path := by rw [hV7]; exact mq_namfar6 N6_py Ppynz _ _ _ _ _ _
            have N7_pz : NamAt V7 pz Y.path := by rw [hV7]; exact mq_namfar6 N6_pz Ppznz _ _ _ _ _ _
            have D7 : Below Wd.heap.size Wd V7 := by rw [hV7]; exact mq_belowset6 D6 Gnz _ _ _ _ _ _
            have SD7 := HSI.out _ _ D7 SD0
            simp only [← hV7]
            refine hK _ _ SD7 ?_
            clear hK K' hV7 D6 SD6 M6_ny M6_nz N6_py N6_pz r0 t0 r1 t1 r2 t2 r3 t3 r4 t4 r5 t5
            try simp only [Act.put, List.setIfInBounds_toArray, List.set_cons_zero, List.set_cons_succ]
            refine anyL_done (by kernel_rfl) ?_ _
            go_wp2
            go_meet
            exact ⟨ny, nz, py, cy, pz, cz, rfl, rfl, M7_ny, M7_nz, N7_py, N7_pz, SD7, HD.out.trans (D7.mono HD.out.size)⟩
        · rw [if_pos (by rfl)]
          unfold mqC8
          go_simp
          obtain ⟨V3, hV3⟩ : ∃ V, V = V2.alloc (.cells #[.slice none 0 0, .string ⟨#[]⟩, .string ⟨#[]⟩, .string ⟨#[]⟩, .int .i64 0, .slice none 0 0] 30) := ⟨_, rfl⟩
          obtain ⟨ny, hny⟩ : ∃ n, n = V2.heap.size := ⟨_, rfl⟩
          have bb : Below V2.heap.size V2 V3 := by rw [hV3]; exact (Below.refl _ _).alloc (Nat.le_refl _) _
          have M3_ny : MBlk V3 ny #[.slice none 0 0, .string ⟨#[]⟩, .string ⟨#[]⟩, .string ⟨#[]⟩, .int .i64 0, .slice none 0 0] 30 := by rw [hV3, hny]; exact heap_alloc_new _ _
          have M3_nz := M2_nz.more bb
          have N3_py := N2_py.below bb
          have U3_py : ∀ ad, py = some ad → 0 < Y.path.length → ad.block < V3.heap.size := fun ad h1 h2 => Nat.lt_of_lt_of_le (U2_py ad h1 h2) bb.size
          have Qnzny : nz ≠ ny := by have := M2_nz.lt; omega
          have Ppyny : ∀ ad, py = some ad → 0 < Y.path.length → ad.block ≠ ny := fun ad h1 h2 => by have := U2_py ad h1 h2; omega
          have D3 : Below Wd.heap.size Wd V3 := D2.trans (bb.mono D2.size)
          have Gny : Wd.heap.size ≤ ny := by rw [hny]; exact D2.size
          have SD3 := HSI.out _ _ D3 SD0
          simp only [← hV3, ← hny]
          refine hK _ _ SD3 ?_
          clear hK K' hV3 hny bb D2 SD2 M2_nz N2_py U2_py
          try simp only [Act.put, List.setIfInBounds_toArray, List.set_cons_zero, List.set_cons_succ]
          refine anyL_ready (rs := [6]) (by kernel_rfl) (by simp) ?_
          refine AllL.cons (o := mqC6) rfl (fun K' hK => ?_) AllL.nil
          rw [if_pos (by rfl)]
          unfold mqC6
          go_simp
          go_at_call 14
          refine (qk4.out _ (qup.out _ (HD.out.trans (D3.mono HD.out.size)))).mono ?_
          rintro e4 V4 ⟨pb, cb, rfl, ho, bb⟩
          have M4_nz := M3_nz.more bb
          have M4_ny := M3_ny.more bb
          have N4_py := N3_py.below bb
          have U4_py : ∀ ad, py = some ad → 0 < Y.path.length → ad.block < V4.heap.size := fun ad h1 h2 => Nat.lt_of_lt_of_le (U3_py ad h1 h2) bb.size
          have F4 := later_is ho qBe.out
          have D4 : Below Wd.heap.size Wd V4 := D3.trans (bb.mono D3.size)
          have SD4 := HSI.out _ _ D4 SD0
          refine hK _ _ SD4 ?_
          clear hK K' bb ho  D3 SD3 M3_nz M3_ny N3_py U3_py
          try simp only [Act.put, List.setIfInBounds_toArray, List.set_cons_zero, List.set_cons_succ]
          refine anyL_ready (rs := [7]) (by kernel_rfl) (by simp) ?_
          refine AllL.cons (o := mqC7) rfl (fun K' hK => ?_) AllL.nil
          rw [if_pos (by rfl)]
          unfold mqC7
          go_simp
          go_at_call 14
          refine (qk5.out _ _ (qup.out _ (HD.out.trans (D4.mono HD.out.size))) F4).mono ?_
          rintro e5 V5 ⟨pz, cz, rfl, ho, bb⟩
          have M5_nz := M4_nz.more bb
          have M5_ny := M4_ny.more bb
          have N5_py := N4_py.below bb
          have U5_py : ∀ ad, py = some ad → 0 < Y.path.length → ad.block < V5.heap.size := fun ad h1 h2 => Nat.lt_of_lt_of_le (U4_py ad h1 h2) bb.size
          have F5 := F4.below bb
          have N5_pz := mq_nam ho
          have hrow := mq_row ho
          have U5_pz : ∀ ad, pz = some ad → 0 < Y.path.length → ad.block < V5.heap.size := fun ad h1 h2 => (hrow ad h1 h2).2
          have Ppznz : ∀ ad, pz = some ad → 0 < Y.path.length → ad.block ≠ nz := fun ad h1 h2 => by have := (hrow ad h1 h2).1; have := M4_nz.lt; omega
          have Ppzny : ∀ ad, pz = some ad → 0 < Y.path.length → ad.block ≠ ny := fun ad h1 h2 => by have := (hrow ad h1 h2).1; have := M4_ny.lt; omega
          have D5 : Below Wd.heap.size Wd V5 := D4.trans (bb.mono D4.size)
          have SD5 := HSI.out _ _ D5 SD0
          refine hK _ _ SD5 ?_
          clear hK K' bb ho hrow D4 SD4 M4_nz M4_ny N4_py F4 U4_py
          try simp only [Act.put, List.setIfInBounds_toArray, List.set_cons_zero, List.set_cons_succ]
          refine anyL_ready (rs := [10]) (by kernel_rfl) (by simp) ?_
          refine AllL.cons (o := mqC10) rfl (fun K' hK => ?_) AllL.nil
          rw [if_pos (by rfl)]
          unfold mqC10
          have r0 := M5_ny.cell 0
          have t0 := M5_ny.fr 0
          have r1 := M5_ny.cell 1
          have t1 := M5_ny.fr 1
          have r2 := M5_ny.cell 2
          have t2 := M5_ny.fr 2
          have r3 := M5_ny.cell 3
          have t3 := M5_ny.fr 3
          have r4 := M5_ny.cell 4
          have t4 := M5_ny.fr 4
          have r5 := M5_ny.cell 5
          have t5 := M5_ny.fr 5
          simp only [List.getElem?_toArray, List.getElem?_cons_zero, List.getElem?_cons_succ] at r0 r1 r2 r3 r4 r5
          go_simp
          obtain ⟨V6, hV6⟩ : ∃ V, V = ((((((V5.setCell ⟨ny, 0, none⟩ (.slice py Y.path.length cy)).setCell ⟨ny, 1, none⟩ (.string Y.id)).setCell ⟨ny, 2, none⟩ (.string Y.title)).setCell ⟨ny, 3, none⟩ (.string Y.link)).setCell ⟨ny, 4, none⟩ (.int .i64 Y.upd)).setCell ⟨ny, 5, none⟩ (.slice none 0 0)) := ⟨_, rfl⟩
          have M6_ny : MBlk V6 ny #[.slice py Y.path.length cy, .string Y.id, .string Y.title, .string Y.link, .int .i64 Y.upd, .slice none 0 0] 30 := by rw [hV6]; exact mblk_set6 M5_ny _ _ _ _ _ _
          have M6_nz := (show MBlk V6 nz _ _ by rw [hV6]; exact mq_far6 M5_nz (by first | exact Qnzny | exact fun e => Qnynz e.symm) _ _ _ _ _ _)
          have N6_py : NamAt V6 py Y.path := by rw [hV6]; exact mq_namfar6 N5_py Ppyny _ _ _ _ _ _
          have N6_pz : NamAt V6 pz Y.path := by rw [hV6]; exact mq_namfar6 N5_pz Ppzny _ _ _ _ _ _
          have D6 : Below Wd.heap.size Wd V6 := by rw [hV6]; exact mq_belowset6 D5 Gny _ _ _ _ _ _
          have SD6 := HSI.out _ _ D6 SD0
          simp only [← hV6]
          refine hK _ _ SD6 ?_
          clear hK K' hV6 D5 SD5 M5_ny M5_nz N5_py N5_pz r0 t0 r1 t1 r2 t2 r3 t3 r4 t4 r5 t5
          try simp only [Act.put, List.setIfInBounds_toArray, List.set_cons_zero, List.set_cons_succ]
          refine anyL_ready (rs := [11]) (by kernel_rfl) (by simp) ?_
          refine AllL.cons (o := mqC11) rfl (fun K' hK => ?_) AllL.nil
          rw [if_pos (by rfl)]
          unfold mqC11
          have r0 := M6_nz.cell 0
          have t0 := M6_nz.fr 0
          have r1 := M6_nz.cell 1
          have t1 := M6_nz.fr 1
          have r2 := M6_nz.cell 2
          have t2 := M6_nz.fr 2
          have r3 := M6_nz.cell 3
          have t3 := M6_nz.fr 3
          have r4 := M6_nz.cell 4
          have t4 := M6_nz.fr 4
          have r5 := M6_nz.cell 5
          have t5 := M6_nz.fr 5
          simp only [List.getElem?_toArray, List.getElem?_cons_zero, List.getElem?_cons_succ] at r0 r1 r2 r3 r4 r5
          go_simp
          obtain ⟨V7, hV7⟩ : ∃ V, V = ((((((V6.setCell ⟨nz, 0, none⟩ (.slice pz Y.path.length cz)).setCell ⟨nz, 1, none⟩ (.string Y.id)).setCell ⟨nz, 2, none⟩ (.string Y.title)).setCell ⟨nz, 3, none⟩ (.string Y.link)).setCell ⟨nz, 4, none⟩ (.int .i64 Y.upd)).setCell ⟨nz, 5, none⟩ (.slice none 0 0)) := ⟨_, rfl⟩
          have M7_nz : MBlk V7 nz #[.slice pz Y.path.length cz, .string Y.id, .string Y.title, .string Y.link, .int .i64 Y.upd, .slice none 0 0] 30 := by rw [hV7]; exact mblk_set6 M6_nz _ _ _ _ _ _
          have M7_ny := (show MBlk V7 ny _ _ by rw [hV7]; exact mq_far6 M6_ny (by first | exact Qnynz | exact fun e => Qnzny e.symm) _ _ _ _ _ _)
          have N7_py : NamAt V7 py Y.path := by rw [hV7]; exact mq_namfar6 N6_py Ppynz _ _ _ _ _ _
          have N7_pz : NamAt V7 pz Y.path := by rw [hV7]; exact mq_namfar6 N6_pz Ppznz _ _ _ _ _ _
          have D7 : Below Wd.heap.size Wd V7 := by rw [hV7]; exact mq_belowset6 D6 Gnz _ _ _ _ _ _
          have SD7 := HSI.out _ _ D7 SD0
          simp only [← hV7]
          refine hK _ _ SD7 ?_
          clear hK K' hV7 D6 SD6 M6_ny M6_nz N6_py N6_pz r0 t0 r1 t1 r2 t2 r3 t3 r4 t4 r5 t5
          try simp only [Act.put, List.setIfInBounds_toArray, List.set_cons_zero, List.set_cons_succ]
          refine anyL_done (by kernel_rfl) ?_ _
          go_wp2
          go_meet
          exact ⟨ny, nz, py, cy, pz, cz, rfl, rfl, M7_ny, M7_nz, N7_py, N7_pz, SD7, HD.out.trans (D7.mono HD.out.size)⟩
      · rw [if_pos (by rfl)]
        unfold mqC8
        go_simp
        obtain ⟨V2, hV2⟩ : ∃ V, V = V1.alloc (.cells #[.slice none 0 0, .string ⟨#[]⟩, .string ⟨#[]⟩, .string ⟨#[]⟩, .int .i64 0, .slice none 0 0] 30) := ⟨_, rfl⟩
        obtain ⟨ny, hny⟩ : ∃ n, n = V1.heap.size := ⟨_, rfl⟩
        have bb : Below V1.heap.size V1 V2 := by rw [hV2]; exact (Below.refl _ _).alloc (Nat.le_refl _) _
        have M2_ny : MBlk V2 ny #[.slice none 0 0, .string ⟨#[]⟩, .string ⟨#[]⟩, .string ⟨#[]⟩, .int .i64 0, .slice none 0 0] 30 := by rw [hV2, hny]; exact heap_alloc_new _ _
        have M2_nz := M1_nz.more bb
        have Qnzny : nz ≠ ny := by have := M1_nz.lt; omega
        have D2 : Below Wd.heap.size Wd V2 := D1.trans (bb.mono D1.size)
        have Gny : Wd.heap.size ≤ ny := by rw [hny]; exact D1.size
        have SD2 := HSI.out _ _ D2 SD0
        simp only [← hV2, ← hny]
        refine hK _ _ SD2 ?_
        clear hK K' hV2 hny bb D1 SD1 M1_nz
        try simp only [Act.put, List.setIfInBounds_toArray, List.set_cons_zero, List.set_cons_succ]
        refine anyL_ready (rs := [2]) (by kernel_rfl) (by simp) ?_
        refine AllL.cons (o := mqC2) rfl (fun K' hK => ?_) AllL.nil
        rw [if_pos (by rfl)]
        unfold mqC2
        go_simp
        go_at_call 14
        refine (qk3.out _ _ (qup.out _ (HD.out.trans (D2.mono HD.out.size))) (HXF.out.below (HD.out.trans (D2.mono HD.out.size)))).mono ?_
        rintro e3 V3 ⟨py, cy, rfl, ho, bb⟩
        have M3_nz := M2_nz.more bb
        have M3_ny := M2_ny.more bb
        have N3_py := mq_nam ho
        have hrow := mq_row ho
        have U3_py : ∀ ad, py = some ad → 0 < Y.path.length → ad.block < V3.heap.size := fun ad h1 h2 => (hrow ad h1 h2).2
        have Ppynz : ∀ ad, py = some ad → 0 < Y.path.length → ad.block ≠ nz := fun ad h1 h2 => by have := (hrow ad h1 h2).1; have := M2_nz.lt; omega
        have Ppyny : ∀ ad, py = some ad → 0 < Y.path.length → ad.block ≠ ny := fun ad h1 h2 => by have := (hrow ad h1 h2).1; have := M2_ny.lt; omega
        have D3 : Below Wd.heap.size Wd V3 := D2.trans (bb.mono D2.size)
        have SD3 := HSI.out _ _ D3 SD0
        refine hK _ _ SD3 ?_
        clear hK K' bb ho hrow D2 SD2 M2_nz M2_ny
        try simp only [Act.put, List.setIfInBounds_toArray, List.set_cons_zero, List.set_cons_succ]
        refine anyL_ready (rs := [6]) (by kernel_rfl) (by simp) ?_
        refine AllL.cons (o := mqC6) rfl (fun K' hK => ?_) AllL.nil
        rw [if_pos (by rfl)]
        unfold mqC6
        go_simp
        go_at_call 14
        refine (qk4.out _ (qup.out _ (HD.out.trans (D3.mono HD.out.size)))).mono ?_
        rintro e4 V4 ⟨pb, cb, rfl, ho, bb⟩
        have M4_nz := M3_nz.more bb
        have M4_ny := M3_ny.more bb
        have N4_py := N3_py.below bb
        have U4_py : ∀ ad, py = some ad → 0 < Y.path.length → ad.block < V4.heap.size := fun ad h1 h2 => Nat.lt_of_lt_of_le (U3_py ad h1 h2) bb.size
        have F4 := later_is ho qBe.out
        have D4 : Below Wd.heap.size Wd V4 := D3.trans (bb.mono D3.size)
        have SD4 := HSI.out _ _ D4 SD0
        refine hK _ _ SD4 ?_
        clear hK K' bb ho  D3 SD3 M3_nz M3_ny N3_py U3_py
        try simp only [Act.put, List.setIfInBounds_toArray, List.set_cons_zero, List.set_cons_succ]
        refine anyL_ready (rs := [7]) (by kernel_rfl) (by simp) ?_
        refine AllL.cons (o := mqC7) rfl (fun K' hK => ?_) AllL.nil
        rw [if_pos (by rfl)]
        unfold mqC7
        go_simp
        go_at_call 14
        refine (qk5.out _ _ (qup.out _ (HD.out.trans (D4.mono HD.out.size))) F4).mono ?_
        rintro e5 V5 ⟨pz, cz, rfl, ho, bb⟩
        have M5_nz := M4_nz.more bb
        have M5_ny := M4_ny.more bb
        have N5_py := N4_py.below bb
        have U5_py : ∀ ad, py = some ad → 0 < Y.path.length → ad.block < V5.heap.size := fun ad h1 h2 => Nat.lt_of_lt_of_le (U4_py ad h1 h2) bb.size
        have F5 := F4.below bb
        have N5_pz := mq_nam ho
        have hrow := mq_row ho
        have U5_pz : ∀ ad, pz = some ad → 0 < Y.path.length → ad.block < V5.heap.size := fun ad h1 h2 => (hrow ad h1 h2).2
        have Ppznz : ∀ ad, pz = some ad → 0 < Y.path.length → ad.block ≠ nz := fun ad h1 h2 => by have := (hrow ad h1 h2).1; have := M4_nz.lt; omega
        have Ppzny : ∀ ad, pz = some ad → 0 < Y.path.length → ad.block ≠ ny := fun ad h1 h2 => by have := (hrow ad h1 h2).1; have := M4_ny.lt; omega
        have D5 : Below Wd.heap.size Wd V5 := D4.trans (bb.mono D4.size)
        have SD5 := HSI.out _ _ D5 SD0
        refine hK _ _ SD5 ?_
        clear hK K' bb ho hrow D4 SD4 M4_nz M4_ny N4_py F4 U4_py
        try simp only [Act.put, List.setIfInBounds_toArray, List.set_cons_zero, List.set_cons_succ]
        refine anyL_ready (rs := [10]) (by kernel_rfl) (by simp) ?_
        refine AllL.cons (o := mqC10) rfl (fun K' hK => ?_) AllL.nil
        rw [if_pos (by rfl)]
        unfold mqC10
        have r0 := M5_ny.cell 0
        have t0 := M5_ny.fr 0
        have r1 := M5_ny.cell 1
        have t1 := M5_ny.fr 1
        have r2 := M5_ny.cell 2
        have t2 := M5_ny.fr 2
        have r3 := M5_ny.cell 3
        have t3 := M5_ny.fr 3
        have r4 := M5_ny.cell 4
        have t4 := M5_ny.fr 4
        have r5 := M5_ny.cell 5
        have t5 := M5_ny.fr 5
        simp only [List.getElem?_toArray, List.getElem?_cons_zero, List.getElem?_cons_succ] at r0 r1 r2 r3 r4 r5
        go_simp
        obtain ⟨V6, hV6⟩ : ∃ V, V = ((((((V5.setCell ⟨ny, 0, none⟩ (.slice py Y.path.length cy)).setCell ⟨ny, 1, none⟩ (.string Y.id)).setCell ⟨ny, 2, none⟩ (.string Y.title)).setCell ⟨ny, 3, none⟩ (.string Y.link)).setCell ⟨ny, 4, none⟩ (.int .i64 Y.upd)).setCell ⟨ny, 5, none⟩ (.slice none 0 0)) := ⟨_, rfl⟩
        have M6_ny : MBlk V6 ny #[.slice py Y.path.length cy, .string Y.id, .string Y.title, .string Y.link, .int .i64 Y.upd, .slice none 0 0] 30 := by rw [hV6]; exact mblk_set6 M5_ny _ _ _ _ _ _
        have M6_nz := (show MBlk V6 nz _ _ by rw [hV6]; exact mq_far6 M5_nz (by first | exact Qnzny | exact fun e => Qnynz e.symm) _ _ _ _ _ _)
        have N6_py : NamAt V6 py Y.path := by rw [hV6]; exact mq_namfar6 N5_py Ppyny _ _ _ _ _ _
        have N6_pz : NamAt V6 pz Y.path := by rw [hV6]; exact mq_namfar6 N5_pz Ppzny _ _ _ _ _ _
        have D6 : Below Wd.heap.size Wd V6 := by rw [hV6]; exact mq_belowset6 D5 Gny _ _ _ _ _ _
        have SD6 := HSI.out _ _ D6 SD0
        simp only [← hV6]
        refine hK _ _ SD6 ?_
        clear hK K' hV6 D5 SD5 M5_ny M5_nz N5_py N5_pz r0 t0 r1 t1 r2 t2 r3 t3 r4 t4 r5 t5
        try simp only [Act.put, List.setIfInBounds_toArray, List.set_cons_zero, List.set_cons_succ]
        refine anyL_ready (rs := [11]) (by kernel_rfl) (by simp) ?_
        refine AllL.cons (o := mqC11) rfl (fun K' hK => ?_) AllL.nil
        rw [if_pos (by rfl)]
        unfold mqC11
        have r0 := M6_nz.cell 0
        have t0 := M6_nz.fr 0
        have r1 := M6_nz.cell 1
        have t1 := M6_nz.fr 1
        have r2 := M6_nz.cell 2
        have t2 := M6_nz.fr 2
        have r3 := M6_nz.cell 3
        have t3 := M6_nz.fr 3
        have r4 := M6_nz.cell 4
        have t4 := M6_nz.fr 4
        have r5 := M6_nz.cell 5
        have t5 := M6_nz.fr 5
        simp only [List.getElem?_toArray, List.getElem?_cons_zero, List.getElem?_cons_succ] at r0 r1 r2 r3 r4 r5
        go_simp
        obtain ⟨V7, hV7⟩ : ∃ V, V = ((((((V6.setCell ⟨nz, 0, none⟩ (.slice pz Y.path.length cz)).setCell ⟨nz, 1, none⟩ (.string Y.id)).setCell ⟨nz, 2, none⟩ (.string Y.title)).setCell ⟨nz, 3, none⟩ (.string Y.link)).setCell ⟨nz, 4, none⟩ (.int .i64 Y.upd)).setCell ⟨nz, 5, none⟩ (.slice none 0 0)) := ⟨_, rfl⟩
        have M7_nz : MBlk V7 nz #[.slice pz Y.path.length cz, .string Y.id, .string Y.title, .string Y.link, .int .i64 Y.upd, .slice none 0 0] 30 := by rw [hV7]; exact mblk_set6 M6_nz _ _ _ _ _ _
        have M7_ny := (show MBlk V7 ny _ _ by rw [hV7]; exact mq_far6 M6_ny (by first | exact Qnynz | exact fun e => Qnzny e.symm) _ _ _ _ _ _)
        have N7_py : NamAt V7 py Y.path := by rw [hV7]; exact mq_namfar6 N6_py Ppynz _ _ _ _ _ _
        have N7_pz : NamAt V7 pz Y.path := by rw [hV7]; exact mq_namfar6 N6_pz Ppznz _ _ _ _ _ _
        have D7 : Below Wd.heap.size Wd V7 := by rw [hV7]; exact mq_belowset6 D6 Gnz _ _ _ _ _ _
        have SD7 := HSI.out _ _ D7 SD0
        simp only [← hV7]
        refine hK _ _ SD7 ?_
        clear hK K' hV7 D6 SD6 M6_ny M6_nz N6_py N6_pz r0 t0 r1 t1 r2 t2 r3 t3 r4 t4 r5 t5
        try simp only [Act.put, List.setIfInBounds_toArray, List.set_cons_zero, List.set_cons_succ]
        refine anyL_done (by kernel_rfl) ?_ _
        go_wp2
        go_meet
        exact ⟨ny, nz, py, cy, pz, cz, rfl, rfl, M7_ny, M7_nz, N7_py, N7_pz, SD7, HD.out.trans (D7.mono HD.out.size)⟩
  case rest =>
    obtain ⟨ny, nz, py, cy, pz, cz, rfl, rfl, hMy, hMz, hNy, hNz, hSc, hBc⟩ := hcut
    clear SE HE x0 x1 x2 x3 x4 x5 f00 f01 f02 f03 f04 f05 f10 f11 f12 f13 f14 f15 f20 f21 f22 f23 f24 f25
    have hFy : FeedIs wc Y (.agg #[.slice py Y.path.length cy, .string Y.id, .string Y.title, .string Y.link, .int .i64 Y.upd, .slice none 0 0]) := ⟨py, cy, none, 0, by rw [qYe.out]; rfl, hNy, fun i hi => by rw [qYe.out] at hi; cases hi⟩
    have hFz : FeedIs wc Y (.agg #[.slice pz Y.path.length cz, .string Y.id, .string Y.title, .string Y.link, .int .i64 Y.upd, .slice none 0 0]) := ⟨pz, cz, none, 0, by rw [qYe.out]; rfl, hNz, fun i hi => by rw [qYe.out] at hi; cases hi⟩
    have qFy := Lib.hid hFy
    have qFz := Lib.hid hFz
    have HSJ := Lib.hid (fun (u1 u2 : World) (hbl : Below u1.heap.size u1 u2) (hss : (u1.cell? ⟨ny, 0, none⟩ = some (.slice py Y.path.length cy) ∧ u1.cell? ⟨ny, 1, none⟩ = some (.string Y.id) ∧ u1.cell? ⟨ny, 2, none⟩ = some (.string Y.title) ∧ u1.cell? ⟨ny, 3, none⟩ = some (.string Y.link) ∧ u1.cell? ⟨ny, 4, none⟩ = some (.int .i64 Y.upd) ∧ u1.cell? ⟨ny, 5, none⟩ = some (.slice none 0 0)) ∧ (u1.cell? ⟨nz, 0, none⟩ = some (.slice pz Y.path.length cz) ∧ u1.cell? ⟨nz, 1, none⟩ = some (.string Y.id) ∧ u1.cell? ⟨nz, 2, none⟩ = some (.string Y.title) ∧ u1.cell? ⟨nz, 3, none⟩ = some (.string Y.link) ∧ u1.cell? ⟨nz, 4, none⟩ = some (.int .i64 Y.upd) ∧ u1.cell? ⟨nz, 5, none⟩ = some (.slice none 0 0)) ∧ (u1.cell? ⟨nx, 0, none⟩ = some (.slice px L.path.length cx) ∧ u1.cell? ⟨nx, 1, none⟩ = some (.string L.id) ∧ u1.cell? ⟨nx, 2, none⟩ = some (.string L.title) ∧ u1.cell? ⟨nx, 3, none⟩ = some (.string L.link) ∧ u1.cell? ⟨nx, 4, none⟩ = some (.int .i64 L.upd) ∧ u1.cell? ⟨nx, 5, none⟩ = some (.slice none 0 0)) ∧ FBox u1 w.heap.size a p1 c1 q1 d1 ∧ FBox u1 (w.heap.size + 1) b p2 c2 q2 d2 ∧ FBox u1 (w.heap.size + 2) c p3 c3 q3 d3 ∧ True) => (show (u2.cell? ⟨ny, 0, none⟩ = some (.slice py Y.path.length cy) ∧ u2.cell? ⟨ny, 1, none⟩ = some (.string Y.id) ∧ u2.cell? ⟨ny, 2, none⟩ = some (.string Y.title) ∧ u2.cell? ⟨ny, 3, none⟩ = some (.string Y.link) ∧ u2.cell? ⟨ny, 4, none⟩ = some (.int .i64 Y.upd) ∧ u2.cell? ⟨ny, 5, none⟩ = some (.slice none 0 0)) ∧ (u2.cell? ⟨nz, 0, none⟩ = some (.slice pz Y.path.length cz) ∧ u2.cell? ⟨nz, 1, none⟩ = some (.string Y.id) ∧ u2.cell? ⟨nz, 2, none⟩ = some (.string Y.title) ∧ u2.cell? ⟨nz, 3, none⟩ = some (.string Y.link) ∧ u2.cell? ⟨nz, 4, none⟩ = some (.int .i64 Y.upd) ∧ u2.cell? ⟨nz, 5, none⟩ = some (.slice none 0 0)) ∧ (u2.cell? ⟨nx, 0, none⟩ = some (.slice px L.path.length cx) ∧ u2.cell? ⟨nx, 1, none⟩ = some (.string L.id) ∧ u2.cell? ⟨nx, 2, none⟩ = some (.string L.title) ∧ u2.cell? ⟨nx, 3, none⟩ = some (.string L.link) ∧ u2.cell? ⟨nx, 4, none⟩ = some (.int .i64 L.upd) ∧ u2.cell? ⟨nx, 5, none⟩ = some (.slice none 0 0)) ∧ FBox u2 w.heap.size a p1 c1 q1 d1 ∧ FBox u2 (w.heap.size + 1) b p2 c2 q2 d2 ∧ FBox u2 (w.heap.size + 2) c p3 c3 q3 d3 ∧ True from ⟨⟨mcell hbl hss.1.1, mcell hbl hss.1.2.1, mcell hbl hss.1.2.2.1, mcell hbl hss.1.2.2.2.1, mcell hbl hss.1.2.2.2.2.1, mcell hbl hss.1.2.2.2.2.2⟩, ⟨mcell hbl hss.2.1.1, mcell hbl hss.2.1.2.1, mcell hbl hss.2.1.2.2.1, mcell hbl hss.2.1.2.2.2.1, mcell hbl hss.2.1.2.2.2.2.1, mcell hbl hss.2.1.2.2.2.2.2⟩, HSI.out u1 u2 hbl hss.2.2⟩))
    have SD : (wc.drew.cell? ⟨ny, 0, none⟩ = some (.slice py Y.path.length cy) ∧ wc.drew.cell? ⟨ny, 1, none⟩ = some (.string Y.id) ∧ wc.drew.cell? ⟨ny, 2, none⟩ = some (.string Y.title) ∧ wc.drew.cell? ⟨ny, 3, none⟩ = some (.string Y.link) ∧ wc.drew.cell? ⟨ny, 4, none⟩ = some (.int .i64 Y.upd) ∧ wc.drew.cell? ⟨ny, 5, none⟩ = some (.slice none 0 0)) ∧ (wc.drew.cell? ⟨nz, 0, none⟩ = some (.slice pz Y.path.length cz) ∧ wc.drew.cell? ⟨nz, 1, none⟩ = some (.string Y.id) ∧ wc.drew.cell? ⟨nz, 2, none⟩ = some (.string Y.title) ∧ wc.drew.cell? ⟨nz, 3, none⟩ = some (.string Y.link) ∧ wc.drew.cell? ⟨nz, 4, none⟩ = some (.int .i64 Y.upd) ∧ wc.drew.cell? ⟨nz, 5, none⟩ = some (.slice none 0 0)) ∧ (wc.drew.cell? ⟨nx, 0, none⟩ = some (.slice px L.path.length cx) ∧ wc.drew.cell? ⟨nx, 1, none⟩ = some (.string L.id) ∧ wc.drew.cell? ⟨nx, 2, none⟩ = some (.string L.title) ∧ wc.drew.cell? ⟨nx, 3, none⟩ = some (.string L.link) ∧ wc.drew.cell? ⟨nx, 4, none⟩ = some (.int .i64 L.upd) ∧ wc.drew.cell? ⟨nx, 5, none⟩ = some (.slice none 0 0)) ∧ FBox wc.drew w.heap.size a p1 c1 q1 d1 ∧ FBox wc.drew (w.heap.size + 1) b p2 c2 q2 d2 ∧ FBox wc.drew (w.heap.size + 2) c p3 c3 q3 d3 ∧ True := ⟨⟨hMy.cell 0, hMy.cell 1, hMy.cell 2, hMy.cell 3, hMy.cell 4, hMy.cell 5⟩, ⟨hMz.cell 0, hMz.cell 1, hMz.cell 2, hMz.cell 3, hMz.cell 4, hMz.cell 5⟩, hSc⟩
    have HD := Lib.hid (show Below wc.heap.size wc wc.drew from (Below.refl _ _).drew)
    have HC := Lib.hid hBc
    have qu2 := Lib.hid (fun wx (hbl : Below wc.heap.size wc wx) => HC.out.trans (hbl.mono HC.out.size))
    clear hMy hMz hNy hNz hSc hBc hFy hFz
    go_wp2
    refine wp_region_late (S := fun w' => (w'.cell? ⟨ny, 0, none⟩ = some (.slice py Y.path.length cy) ∧ w'.cell? ⟨ny, 1, none⟩ = some (.string Y.id) ∧ w'.cell? ⟨ny, 2, none⟩ = some (.string Y.title) ∧ w'.cell? ⟨ny, 3, none⟩ = some (.string Y.link) ∧ w'.cell? ⟨ny, 4, none⟩ = some (.int .i64 Y.upd) ∧ w'.cell? ⟨ny, 5, none⟩ = some (.slice none 0 0)) ∧ (w'.cell? ⟨nz, 0, none⟩ = some (.slice pz Y.path.length cz) ∧ w'.cell? ⟨nz, 1, none⟩ = some (.string Y.id) ∧ w'.cell? ⟨nz, 2, none⟩ = some (.string Y.title) ∧ w'.cell? ⟨nz, 3, none⟩ = some (.string Y.link) ∧ w'.cell? ⟨nz, 4, none⟩ = some (.int .i64 Y.upd) ∧ w'.cell? ⟨nz, 5, none⟩ = some (.slice none 0 0)) ∧ (w'.cell? ⟨nx, 0, none⟩ = some (.slice px L.path.length cx) ∧ w'.cell? ⟨nx, 1, none⟩ = some (.string L.id) ∧ w'.cell? ⟨nx, 2, none⟩ = some (.string L.title) ∧ w'.cell? ⟨nx, 3, none⟩ = some (.string L.link) ∧ w'.cell? ⟨nx, 4, none⟩ = some (.int .i64 L.upd) ∧ w'.cell? ⟨nx, 5, none⟩ = some (.slice none 0 0)) ∧ FBox w' w.heap.size a p1 c1 q1 d1 ∧ FBox w' (w.heap.size + 1) b p2 c2 q2 d2 ∧ FBox w' (w.heap.size + 2) c p3 c3 q3 d3 ∧ True) (D := []) (by kernel_rfl) ?_
    refine anyL_take (i := 0) (oi := { dst := some 45, op := Go.Op.load 30 (Go.Operand.tmp 8), type := 30, pos := "law.go:129", after := #[], guard := none }) (v := ?_) rfl (by decide) (by kernel_rfl) (by kernel_rfl) (by kernel_rfl) (by kernel_rfl) (fun _ _ _ h => h) (Or.inl ⟨by rfl, ?_⟩) SD ?_
    rotate_left
    · intro wz hSz
      obtain ⟨⟨y0, y1, y2, y3, y4, y5⟩, ⟨u0, u1, u2, u3, u4, u5⟩, ⟨x0, x1, x2, x3, x4, x5⟩, ⟨z0, z1, z2, z3, z4, z5⟩, ⟨z6, z7, z8, z9, z10, z11⟩, ⟨z12, z13, z14, z15, z16, z17⟩, -⟩ := hSz
      go_simp
      (try with_reducible rfl)
    try simp only [Act.put, List.setIfInBounds_toArray, List.set_cons_zero, List.set_cons_succ]
    refine anyL_take (i := 1) (oi := { dst := some 46, op := Go.Op.load 30 (Go.Operand.tmp 9), type := 30, pos := "law.go:129", after := #[], guard := none }) (v := ?_) rfl (by decide) (by kernel_rfl) (by kernel_rfl) (by kernel_rfl) (by kernel_rfl) (fun _ _ _ h => h) (Or.inl ⟨by rfl, ?_⟩) SD ?_
    rotate_left
    · intro wz hSz
      obtain ⟨⟨y0, y1, y2, y3, y4, y5⟩, ⟨u0, u1, u2, u3, u4, u5⟩, ⟨x0, x1, x2, x3, x4, x5⟩, ⟨z0, z1, z2, z3, z4, z5⟩, ⟨z6, z7, z8, z9, z10, z11⟩, ⟨z12, z13, z14, z15, z16, z17⟩, -⟩ := hSz
      go_simp
      (try with_reducible rfl)
    try simp only [Act.put, List.setIfInBounds_toArray, List.set_cons_zero, List.set_cons_succ]
    refine anyL_ready (rs := [2]) (by kernel_rfl) (by simp) ?_
    refine AllL.cons (o := { dst := some 47, op := Go.Op.call { callee := Go.Callee.value (Go.Operand.func 15), args := #[Go.Operand.tmp 45, Go.Operand.tmp 46], argTypes := #[30, 30] }, type := 4, pos := "law.go:129", after := #[{ on := 0, ground := Go.Ground.data }, { on := 1, ground := Go.Ground.data }], guard := none }) rfl (fun K' hK => ?_) AllL.nil
    rw [if_pos (by rfl)]
    go_simp
    go_at_call 15
    refine (qm2.out _ _ _ (qFy.out.below HD.out) (qFz.out.below HD.out)).mono ?_
    rintro e41 w41 ⟨rfl, b41⟩
    have S41 := HSJ.out _ _ b41 SD
    have HB41 := Lib.hid (HD.out.trans (b41.mono HD.out.size))
    refine hK _ _ S41 ?_
    clear hK K' b41 SD
    try simp only [Act.put, List.setIfInBounds_toArray, List.set_cons_zero, List.set_cons_succ]
    refine anyL_take (i := 3) (oi := { dst := some 48, op := Go.Op.unOp Go.UnOp.not 4 (Go.Operand.tmp 47), type := 4, pos := "law.go:129", after := #[{ on := 2, ground := Go.Ground.data }], guard := none }) (v := ?_) rfl (by decide) (by kernel_rfl) (by kernel_rfl) (by kernel_rfl) (by kernel_rfl) (fun _ _ _ h => h) (Or.inl ⟨by rfl, ?_⟩) S41 ?_
    rotate_left
    · intro wz hSz
      skip
      go_simp
      (try with_reducible rfl)
    try simp only [Act.put, List.setIfInBounds_toArray, List.set_cons_zero, List.set_cons_succ]
    refine anyL_take (i := 4) (oi := { dst := some 49, op := Go.Op.move (Go.Operand.tmp 48), type := 4, pos := "law.go:129", after := #[{ on := 3, ground := Go.Ground.data }, { on := 2, ground := Go.Ground.chain }], guard := none }) (v := ?_) rfl (by decide) (by kernel_rfl) (by kernel_rfl) (by kernel_rfl) (by kernel_rfl) (fun _ _ _ h => h) (Or.inl ⟨by rfl, ?_⟩) S41 ?_
    rotate_left
    · intro wz hSz
      skip
      go_simp
      (try with_reducible rfl)
    try simp only [Act.put, List.setIfInBounds_toArray, List.set_cons_zero, List.set_cons_succ]
    refine anyL_take (i := 5) (oi := { dst := some 50, op := Go.Op.load 30 (Go.Operand.tmp 7), type := 30, pos := "law.go:129", after := #[{ on := 4, ground := Go.Ground.guard }], guard := some (4, false) }) (v := ?_) rfl (by decide) (by kernel_rfl) (by kernel_rfl) (by kernel_rfl) (by kernel_rfl) (fun _ _ _ h => h) (Or.inl ⟨by rfl, ?_⟩) S41 ?_
    rotate_left
    · intro wz hSz
      obtain ⟨⟨y0, y1, y2, y3, y4, y5⟩, ⟨u0, u1, u2, u3, u4, u5⟩, ⟨x0, x1, x2, x3, x4, x5⟩, ⟨z0, z1, z2, z3, z4, z5⟩, ⟨z6, z7, z8, z9, z10, z11⟩, ⟨z12, z13, z14, z15, z16, z17⟩, -⟩ := hSz
      go_simp
      (try with_reducible rfl)
    try simp only [Act.put, List.setIfInBounds_toArray, List.set_cons_zero, List.set_cons_succ]
    refine anyL_take (i := 6) (oi := { dst := some 51, op := Go.Op.load 30 (Go.Operand.tmp 7), type := 30, pos := "law.go:129", after := #[{ on := 4, ground := Go.Ground.guard }], guard := some (4, false) }) (v := ?_) rfl (by decide) (by kernel_rfl) (by kernel_rfl) (by kernel_rfl) (by kernel_rfl) (fun _ _ _ h => h) (Or.inl ⟨by rfl, ?_⟩) S41 ?_
    rotate_left
    · intro wz hSz
      obtain ⟨⟨y0, y1, y2, y3, y4, y5⟩, ⟨u0, u1, u2, u3, u4, u5⟩, ⟨x0, x1, x2, x3, x4, x5⟩, ⟨z0, z1, z2, z3, z4, z5⟩, ⟨z6, z7, z8, z9, z10, z11⟩, ⟨z12, z13, z14, z15, z16, z17⟩, -⟩ := hSz
      go_simp
      (try with_reducible rfl)
    try simp only [Act.put, List.setIfInBounds_toArray, List.set_cons_zero, List.set_cons_succ]
    refine anyL_take (i := 8) (oi := { dst := some 53, op := Go.Op.load 30 (Go.Operand.tmp 7), type := 30, pos := "law.go:129", after := #[{ on := 4, ground := Go.Ground.guard }], guard := some (4, false) }) (v := ?_) rfl (by decide) (by kernel_rfl) (by kernel_rfl) (by kernel_rfl) (by kernel_rfl) (fun _ _ _ h => h) (Or.inl ⟨by rfl, ?_⟩) S41 ?_
    rotate_left
    · intro wz hSz
      obtain ⟨⟨y0, y1, y2, y3, y4, y5⟩, ⟨u0, u1, u2, u3, u4, u5⟩, ⟨x0, x1, x2, x3, x4, x5⟩, ⟨z0, z1, z2, z3, z4, z5⟩, ⟨z6, z7, z8, z9, z10, z11⟩, ⟨z12, z13, z14, z15, z16, z17⟩, -⟩ := hSz
      go_simp
      (try with_reducible rfl)
    try simp only [Act.put, List.setIfInBounds_toArray, List.set_cons_zero, List.set_cons_succ]
    refine anyL_ready (rs := [7]) (by kernel_rfl) (by simp) ?_
    refine AllL.cons (o := { dst := some 52, op := Go.Op.call { callee := Go.Callee.value (Go.Operand.func 14), args := #[Go.Operand.tmp 50, Go.Operand.tmp 51], argTypes := #[30, 30] }, type := 30, pos := "law.go:129", after := #[{ on := 5, ground := Go.Ground.data }, { on := 6, ground := Go.Ground.data }, { on := 4, ground := Go.Ground.chain }, { on := 4, ground := Go.Ground.guard }], guard := some (4, false) }) rfl (fun K' hK => ?_) AllL.nil
    rw [if_pos (by rfl)]
    go_simp
    go_at_call 14
    refine (qk6.out _ _ (qup.out _ (qu2.out _ HB41.out)) (HXF.out.below (qu2.out _ HB41.out))).mono ?_
    rintro e42 w42 ⟨p42, c42, rfl, ho42, b42⟩
    have S42 := HSJ.out _ _ b42 S41
    have HB42 := Lib.hid (HB41.out.trans (b42.mono HB41.out.size))
    refine hK _ _ S42 ?_
    clear hK K' b42 S41
    try simp only [Act.put, List.setIfInBounds_toArray, List.set_cons_zero, List.set_cons_succ]
    refine anyL_ready (rs := [9]) (by kernel_rfl) (by simp) ?_
    refine AllL.cons (o := { dst := some 54, op := Go.Op.call { callee := Go.Callee.value (Go.Operand.func 15), args := #[Go.Operand.tmp 52, Go.Operand.tmp 53], argTypes := #[30, 30] }, type := 4, pos := "law.go:129", after := #[{ on := 7, ground := Go.Ground.data }, { on := 8, ground := Go.Ground.data }, { on := 7, ground := Go.Ground.chain }, { on := 4, ground := Go.Ground.guard }], guard := some (4, false) }) rfl (fun K' hK => ?_) AllL.nil
    rw [if_pos (by rfl)]
    go_simp
    go_at_call 15
    refine (qm1.out _ _ _ (later_is ho42 qLe.out) (HXF.out.below (qu2.out _ HB42.out))).mono ?_
    rintro e43 w43 ⟨rfl, b43⟩
    have S43 := HSJ.out _ _ b43 S42
    have HB43 := Lib.hid (HB42.out.trans (b43.mono HB42.out.size))
    refine hK _ _ S43 ?_
    clear hK K' b43 S42
    try simp only [Act.put, List.setIfInBounds_toArray, List.set_cons_zero, List.set_cons_succ]
    refine anyL_take (i := 10) (oi := { dst := some 55, op := Go.Op.unOp Go.UnOp.not 4 (Go.Operand.tmp 54), type := 4, pos := "law.go:129", after := #[{ on := 9, ground := Go.Ground.data }, { on := 4, ground := Go.Ground.guard }], guard := some (4, false) }) (v := ?_) rfl (by decide) (by kernel_rfl) (by kernel_rfl) (by kernel_rfl) (by kernel_rfl) (fun _ _ _ h => h) (Or.inl ⟨by rfl, ?_⟩) S43 ?_
    rotate_left
    · intro wz hSz
      skip
      go_simp
      (try with_reducible rfl)
    try simp only [Act.put, List.setIfInBounds_toArray, List.set_cons_zero, List.set_cons_succ]
    refine anyL_take (i := 11) (oi := { dst := some 56, op := Go.Op.pick (Go.Operand.tmp 49) (Go.Operand.const (Go.Value.bool true)) (Go.Operand.tmp 55), type := 4, pos := "law.go:129", after := #[{ on := 4, ground := Go.Ground.data }, { on := 10, ground := Go.Ground.data }], guard := none }) (v := ?_) rfl (by decide) (by kernel_rfl) (by kernel_rfl) (by kernel_rfl) (by kernel_rfl) (fun _ _ _ h => h) (Or.inl ⟨by rfl, ?_⟩) S43 ?_
    rotate_left
    · intro wz hSz
      skip
      go_simp
      (try with_reducible rfl)
    try simp only [Act.put, List.setIfInBounds_toArray, List.set_cons_zero, List.set_cons_succ]
    refine anyL_done (by kernel_rfl) ?_ _
    have SE := S43.2.2
    have HE := Lib.hid (qu2.out _ HB43.out)
    clear S43 HB43 qFy qFz HSJ HC qu2
    obtain ⟨⟨x0, x1, x2, x3, x4, x5⟩, ⟨f00, f01, f02, f03, f04, f05⟩, ⟨f10, f11, f12, f13, f14, f15⟩, ⟨f20, f21, f22, f23, f24, f25⟩, -⟩ := SE
    have SE : (w43.cell? ⟨nx, 0, none⟩ = some (.slice px L.path.length cx) ∧ w43.cell? ⟨nx, 1, none⟩ = some (.string L.id) ∧ w43.cell? ⟨nx, 2, none⟩ = some (.string L.title) ∧ w43.cell? ⟨nx, 3, none⟩ = some (.string L.link) ∧ w43.cell? ⟨nx, 4, none⟩ = some (.int .i64 L.upd) ∧ w43.cell? ⟨nx, 5, none⟩ = some (.slice none 0 0)) ∧ FBox w43 w.heap.size a p1 c1 q1 d1 ∧ FBox w43 (w.heap.size + 1) b p2 c2 q2 d2 ∧ FBox w43 (w.heap.size + 2) c p3 c3 q3 d3 ∧ True := ⟨⟨x0, x1, x2, x3, x4, x5⟩, ⟨⟨f00, f01, f02, f03, f04, f05⟩, ⟨f10, f11, f12, f13, f14, f15⟩, ⟨f20, f21, f22, f23, f24, f25⟩, trivial⟩⟩
    go_upto_region 9 with fail
    go_cut [72] (fun z wx => z = .bool false ∧ ((wx.cell? ⟨nx, 0, none⟩ = some (.slice px L.path.length cx) ∧ wx.cell? ⟨nx, 1, none⟩ = some (.string L.id) ∧ wx.cell? ⟨nx, 2, none⟩ = some (.string L.title) ∧ wx.cell? ⟨nx, 3, none⟩ = some (.string L.link) ∧ wx.cell? ⟨nx, 4, none⟩ = some (.int .i64 L.upd) ∧ wx.cell? ⟨nx, 5, none⟩ = some (.slice none 0 0)) ∧ FBox wx w.heap.size a p1 c1 q1 d1 ∧ FBox wx (w.heap.size + 1) b p2 c2 q2 d2 ∧ FBox wx (w.heap.size + 2) c p3 c3 q3 d3 ∧ True) ∧ Below W5.heap.size W5 wx)
    case first =>
      clear x0 x1 x2 x3 x4 x5 f00 f01 f02 f03 f04 f05 f10 f11 f12 f13 f14 f15 f20 f21 f22 f23 f24 f25
      have SD : (w43.drew.cell? ⟨nx, 0, none⟩ = some (.slice px L.path.length cx) ∧ w43.drew.cell? ⟨nx, 1, none⟩ = some (.string L.id) ∧ w43.drew.cell? ⟨nx, 2, none⟩ = some (.string L.title) ∧ w43.drew.cell? ⟨nx, 3, none⟩ = some (.string L.link) ∧ w43.drew.cell? ⟨nx, 4, none⟩ = some (.int .i64 L.upd) ∧ w43.drew.cell? ⟨nx, 5, none⟩ = some (.slice none 0 0)) ∧ FBox w43.drew w.heap.size a p1 c1 q1 d1 ∧ FBox w43.drew (w.heap.size + 1) b p2 c2 q2 d2 ∧ FBox w43.drew (w.heap.size + 2) c p3 c3 q3 d3 ∧ True := SE
      have HD := Lib.hid (show Below W5.heap.size W5 w43.drew from HE.out.drew)
      clear SE HE
      have k8 := qk8.out
      have k9 := qk9.out
      clear qk8 qk9
      cases hka : okF a
      · rw [hka, show errZ false = 22 from rfl] at k8
        clear hka k9
        go_wp2
        refine wp_region_late (S := fun w' => (w'.cell? ⟨nx, 0, none⟩ = some (.slice px L.path.length cx) ∧ w'.cell? ⟨nx, 1, none⟩ = some (.string L.id) ∧ w'.cell? ⟨nx, 2, none⟩ = some (.string L.title) ∧ w'.cell? ⟨nx, 3, none⟩ = some (.string L.link) ∧ w'.cell? ⟨nx, 4, none⟩ = some (.int .i64 L.upd) ∧ w'.cell? ⟨nx, 5, none⟩ = some (.slice none 0 0)) ∧ FBox w' w.heap.size a p1 c1 q1 d1 ∧ FBox w' (w.heap.size + 1) b p2 c2 q2 d2 ∧ FBox w' (w.heap.size + 2) c p3 c3 q3 d3 ∧ True) (D := []) (by kernel_rfl) ?_
        refine anyL_take (i := 0) (oi := { dst := some 57, op := Go.Op.load 30 (Go.Operand.tmp 3), type := 30, pos := "law.go:132", after := #[], guard := none }) (v := ?_) rfl (by decide) (by kernel_rfl) (by kernel_rfl) (by kernel_rfl) (by kernel_rfl) (fun _ _ _ h => h) (Or.inl ⟨by rfl, ?_⟩) SD ?_
        rotate_left
        · intro wz hSz
          obtain ⟨⟨x0, x1, x2, x3, x4, x5⟩, ⟨z0, z1, z2, z3, z4, z5⟩, ⟨z6, z7, z8, z9, z10, z11⟩, ⟨z12, z13, z14, z15, z16, z17⟩, -⟩ := hSz
          go_simp
          (try with_reducible rfl)
        try simp only [Act.put, List.setIfInBounds_toArray, List.set_cons_zero, List.set_cons_succ]
        refine anyL_ready (rs := [1]) (by kernel_rfl) (by simp) ?_
        refine AllL.cons (o := { dst := some 58, op := Go.Op.call { callee := Go.Callee.value (Go.Operand.func 8), args := #[Go.Operand.tmp 57], argTypes := #[30] }, type := 3, pos := "law.go:132", after := #[{ on := 0, ground := Go.Ground.data }], guard := none }) rfl (fun K' hK => ?_) AllL.nil
        rw [if_pos (by rfl)]
        go_simp
        go_at_call 8
        refine (k8 _ (qup.out _ HD.out)).mono ?_
        rintro e61 w61 ⟨rfl, b61⟩
        have S61 := HSI.out _ _ b61 SD
        have HB61 := Lib.hid (HD.out.trans (b61.mono HD.out.size))
        refine hK _ _ S61 ?_
        clear hK K' b61 SD
        try simp only [Act.put, List.setIfInBounds_toArray, List.set_cons_zero, List.set_cons_succ]
        refine anyL_take (i := 2) (oi := { dst := some 59, op := Go.Op.binOp Go.BinOp.eql 3 (Go.Operand.tmp 58) (Go.Operand.const (Go.Value.int Go.IntKind.i64 0)) 3, type := 4, pos := "law.go:132", after := #[{ on := 1, ground := Go.Ground.data }], guard := none }) (v := ?_) rfl (by decide) (by kernel_rfl) (by kernel_rfl) (by kernel_rfl) (by kernel_rfl) (fun _ _ _ h => h) (Or.inl ⟨by rfl, ?_⟩) S61 ?_
        rotate_left
        · intro wz hSz
          skip
          go_simp
          (try with_reducible rfl)
        try simp only [Act.put, List.setIfInBounds_toArray, List.set_cons_zero, List.set_cons_succ]
        refine anyL_take (i := 3) (oi := { dst := some 60, op := Go.Op.move (Go.Operand.tmp 59), type := 4, pos := "law.go:132", after := #[{ on := 2, ground := Go.Ground.data }, { on := 1, ground := Go.Ground.chain }], guard := none }) (v := ?_) rfl (by decide) (by kernel_rfl) (by kernel_rfl) (by kernel_rfl) (by kernel_rfl) (fun _ _ _ h => h) (Or.inl ⟨by rfl, ?_⟩) S61 ?_
        rotate_left
        · intro wz hSz
          skip
          go_simp
          (try with_reducible rfl)
        try simp only [Act.put, List.setIfInBounds_toArray, List.set_cons_zero, List.set_cons_succ]
        refine anyL_take (i := 4) (oi := { dst := some 61, op := Go.Op.load 30 (Go.Operand.tmp 4), type := 30, pos := "law.go:132", after := #[{ on := 3, ground := Go.Ground.guard }], guard := some (3, true) }) (v := undef) rfl (by decide) (by kernel_rfl) (by kernel_rfl) (by kernel_rfl) (by kernel_rfl) (fun _ _ _ h => h) (Or.inr ⟨by rfl, rfl⟩) S61 ?_
        try simp only [Act.put, List.setIfInBounds_toArray, List.set_cons_zero, List.set_cons_succ]
        refine anyL_take (i := 5) (oi := { dst := some 62, op := Go.Op.call { callee := Go.Callee.value (Go.Operand.func 8), args := #[Go.Operand.tmp 61], argTypes := #[30] }, type := 3, pos := "law.go:132", after := #[{ on := 4, ground := Go.Ground.data }, { on := 3, ground := Go.Ground.chain }, { on := 3, ground := Go.Ground.guard }], guard := some (3, true) }) (v := undef) rfl (by decide) (by kernel_rfl) (by kernel_rfl) (by kernel_rfl) (by kernel_rfl) (fun _ _ _ h => h) (Or.inr ⟨by rfl, rfl⟩) S61 ?_
        try simp only [Act.put, List.setIfInBounds_toArray, List.set_cons_zero, List.set_cons_succ]
        refine anyL_take (i := 6) (oi := { dst := some 63, op := Go.Op.binOp Go.BinOp.eql 3 (Go.Operand.tmp 62) (Go.Operand.const (Go.Value.int Go.IntKind.i64 0)) 3, type := 4, pos := "law.go:132", after := #[{ on := 5, ground := Go.Ground.data }, { on := 3, ground := Go.Ground.guard }], guard := some (3, true) }) (v := undef) rfl (by decide) (by kernel_rfl) (by kernel_rfl) (by kernel_rfl) (by kernel_rfl) (fun _ _ _ h => h) (Or.inr ⟨by rfl, rfl⟩) S61 ?_
        try simp only [Act.put, List.setIfInBounds_toArray, List.set_cons_zero, List.set_cons_succ]
        refine anyL_take (i := 7) (oi := { dst := some 64, op := Go.Op.pick (Go.Operand.tmp 60) (Go.Operand.tmp 63) (Go.Operand.const (Go.Value.bool false)), type := 4, pos := "law.go:132", after := #[{ on := 3, ground := Go.Ground.data }, { on := 6, ground := Go.Ground.data }], guard := none }) (v := ?_) rfl (by decide) (by kernel_rfl) (by kernel_rfl) (by kernel_rfl) (by kernel_rfl) (fun _ _ _ h => h) (Or.inl ⟨by rfl, ?_⟩) S61 ?_
        rotate_left
        · intro wz hSz
          skip
          go_simp
          (try with_reducible rfl)
        try simp only [Act.put, List.setIfInBounds_toArray, List.set_cons_zero, List.set_cons_succ]
        refine anyL_take (i := 8) (oi := { dst := some 65, op := Go.Op.move (Go.Operand.tmp 64), type := 4, pos := "law.go:132", after := #[{ on := 7, ground := Go.Ground.data }, { on := 5, ground := Go.Ground.chain }], guard := none }) (v := ?_) rfl (by decide) (by kernel_rfl) (by kernel_rfl) (by kernel_rfl) (by kernel_rfl) (fun _ _ _ h => h) (Or.inl ⟨by rfl, ?_⟩) S61 ?_
        rotate_left
        · intro wz hSz
          skip
          go_simp
          (try with_reducible rfl)
        try simp only [Act.put, List.setIfInBounds_toArray, List.set_cons_zero, List.set_cons_succ]
        refine anyL_take (i := 9) (oi := { dst := some 66, op := Go.Op.load 30 (Go.Operand.tmp 4), type := 30, pos := "law.go:132", after := #[{ on := 8, ground := Go.Ground.guard }], guard := some (8, true) }) (v := undef) rfl (by decide) (by kernel_rfl) (by kernel_rfl) (by kernel_rfl) (by kernel_rfl) (fun _ _ _ h => h) (Or.inr ⟨by rfl, rfl⟩) S61 ?_
        try simp only [Act.put, List.setIfInBounds_toArray, List.set_cons_zero, List.set_cons_succ]
        refine anyL_take (i := 10) (oi := { dst := some 67, op := Go.Op.load 30 (Go.Operand.tmp 3), type := 30, pos := "law.go:132", after := #[{ on := 8, ground := Go.Ground.guard }], guard := some (8, true) }) (v := undef) rfl (by decide) (by kernel_rfl) (by kernel_rfl) (by kernel_rfl) (by kernel_rfl) (fun _ _ _ h => h) (Or.inr ⟨by rfl, rfl⟩) S61 ?_
        try simp only [Act.put, List.setIfInBounds_toArray, List.set_cons_zero, List.set_cons_succ]
        refine anyL_take (i := 11) (oi := { dst := some 68, op := Go.Op.call { callee := Go.Callee.value (Go.Operand.func 14), args := #[Go.Operand.tmp 66, Go.Operand.tmp 67], argTypes := #[30, 30] }, type := 30, pos := "law.go:132", after := #[{ on := 9, ground := Go.Ground.data }, { on := 10, ground := Go.Ground.data }, { on := 8, ground := Go.Ground.chain }, { on := 8, ground := Go.Ground.guard }], guard := some (8, true) }) (v := undef) rfl (by decide) (by kernel_rfl) (by kernel_rfl) (by kernel_rfl) (by kernel_rfl) (fun _ _ _ h => h) (Or.inr ⟨by rfl, rfl⟩) S61 ?_
        try simp only [Act.put, List.setIfInBounds_toArray, List.set_cons_zero, List.set_cons_succ]
        refine anyL_take (i := 12) (oi := { dst := some 69, op := Go.Op.load 30 (Go.Operand.tmp 7), type := 30, pos := "law.go:132", after := #[{ on := 8, ground := Go.Ground.guard }], guard := some (8, true) }) (v := undef) rfl (by decide) (by kernel_rfl) (by kernel_rfl) (by kernel_rfl) (by kernel_rfl) (fun _ _ _ h => h) (Or.inr ⟨by rfl, rfl⟩) S61 ?_
        try simp only [Act.put, List.setIfInBounds_toArray, List.set_cons_zero, List.set_cons_succ]
        refine anyL_take (i := 13) (oi := { dst := some 70, op := Go.Op.call { callee := Go.Callee.value (Go.Operand.func 15), args := #[Go.Operand.tmp 68, Go.Operand.tmp 69], argTypes := #[30, 30] }, type := 4, pos := "law.go:132", after := #[{ on := 11, ground := Go.Ground.data }, { on := 12, ground := Go.Ground.data }, { on := 11, ground := Go.Ground.chain }, { on := 8, ground := Go.Ground.guard }], guard := some (8, true) }) (v := undef) rfl (by decide) (by kernel_rfl) (by kernel_rfl) (by kernel_rfl) (by kernel_rfl) (fun _ _ _ h => h) (Or.inr ⟨by rfl, rfl⟩) S61 ?_
        try simp only [Act.put, List.setIfInBounds_toArray, List.set_cons_zero, List.set_cons_succ]
        refine anyL_take (i := 14) (oi := { dst := some 71, op := Go.Op.unOp Go.UnOp.not 4 (Go.Operand.tmp 70), type := 4, pos := "law.go:132", after := #[{ on := 13, ground := Go.Ground.data }, { on := 8, ground := Go.Ground.guard }], guard := some (8, true) }) (v := undef) rfl (by decide) (by kernel_rfl) (by kernel_rfl) (by kernel_rfl) (by kernel_rfl) (fun _ _ _ h => h) (Or.inr ⟨by rfl, rfl⟩) S61 ?_
        try simp only [Act.put, List.setIfInBounds_toArray, List.set_cons_zero, List.set_cons_succ]
        refine anyL_take (i := 15) (oi := { dst := some 72, op := Go.Op.pick (Go.Operand.tmp 65) (Go.Operand.tmp 71) (Go.Operand.const (Go.Value.bool false)), type := 4, pos := "law.go:132", after := #[{ on := 8, ground := Go.Ground.data }, { on := 14, ground := Go.Ground.data }], guard := none }) (v := ?_) rfl (by decide) (by kernel_rfl) (by kernel_rfl) (by kernel_rfl) (by kernel_rfl) (fun _ _ _ h => h) (Or.inl ⟨by rfl, ?_⟩) S61 ?_
        rotate_left
        · intro wz hSz
          skip
          go_simp
          (try with_reducible rfl)
        try simp only [Act.put, List.setIfInBounds_toArray, List.set_cons_zero, List.set_cons_succ]
        refine anyL_done (by kernel_rfl) ?_ _
        go_wp2
        go_meet
        exact ⟨by first | rfl | simp, S61, HB61.out⟩
      rw [hka, show errZ true = 0 from rfl] at k8
      cases hkb : okF b
      · rw [hkb, show errZ false = 22 from rfl] at k9
        clear hka hkb
        go_wp2
        refine wp_region_late (S := fun w' => (w'.cell? ⟨nx, 0, none⟩ = some (.slice px L.path.length cx) ∧ w'.cell? ⟨nx, 1, none⟩ = some (.string L.id) ∧ w'.cell? ⟨nx, 2, none⟩ = some (.string L.title) ∧ w'.cell? ⟨nx, 3, none⟩ = some (.string L.link) ∧ w'.cell? ⟨nx, 4, none⟩ = some (.int .i64 L.upd) ∧ w'.cell? ⟨nx, 5, none⟩ = some (.slice none 0 0)) ∧ FBox w' w.heap.size a p1 c1 q1 d1 ∧ FBox w' (w.heap.size + 1) b p2 c2 q2 d2 ∧ FBox w' (w.heap.size + 2) c p3 c3 q3 d3 ∧ True) (D := []) (by kernel_rfl) ?_
        refine anyL_take (i := 0) (oi := { dst := some 57, op := Go.Op.load 30 (Go.Operand.tmp 3), type := 30, pos := "law.go:132", after := #[], guard := none }) (v := ?_) rfl (by decide) (by kernel_rfl) (by kernel_rfl) (by kernel_rfl) (by kernel_rfl) (fun _ _ _ h => h) (Or.inl ⟨by rfl, ?_⟩) SD ?_
        rotate_left
        · intro wz hSz
          obtain ⟨⟨x0, x1, x2, x3, x4, x5⟩, ⟨z0, z1, z2, z3, z4, z5⟩, ⟨z6, z7, z8, z9, z10, z11⟩, ⟨z12, z13, z14, z15, z16, z17⟩, -⟩ := hSz
          go_simp
          (try with_reducible rfl)
        try simp only [Act.put, List.setIfInBounds_toArray, List.set_cons_zero, List.set_cons_succ]
        refine anyL_ready (rs := [1]) (by kernel_rfl) (by simp) ?_
        refine AllL.cons (o := { dst := some 58, op := Go.Op.call { callee := Go.Callee.value (Go.Operand.func 8), args := #[Go.Operand.tmp 57], argTypes := #[30] }, type := 3, pos := "law.go:132", after := #[{ on := 0, ground := Go.Ground.data }], guard := none }) rfl (fun K' hK => ?_) AllL.nil
        rw [if_pos (by rfl)]
        go_simp
        go_at_call 8
        refine (k8 _ (qup.out _ HD.out)).mono ?_
        rintro e61 w61 ⟨rfl, b61⟩
        have S61 := HSI.out _ _ b61 SD
        have HB61 := Lib.hid (HD.out.trans (b61.mono HD.out.size))
        refine hK _ _ S61 ?_
        clear hK K' b61 SD
        try simp only [Act.put, List.setIfInBounds_toArray, List.set_cons_zero, List.set_cons_succ]
        refine anyL_take (i := 2) (oi := { dst := some 59, op := Go.Op.binOp Go.BinOp.eql 3 (Go.Operand.tmp 58) (Go.Operand.const (Go.Value.int Go.IntKind.i64 0)) 3, type := 4, pos := "law.go:132", after := #[{ on := 1, ground := Go.Ground.data }], guard := none }) (v := ?_) rfl (by decide) (by kernel_rfl) (by kernel_rfl) (by kernel_rfl) (by kernel_rfl) (fun _ _ _ h => h) (Or.inl ⟨by rfl, ?_⟩) S61 ?_
        rotate_left
        · intro wz hSz
          skip
          go_simp
          (try with_reducible rfl)
        try simp only [Act.put, List.setIfInBounds_toArray, List.set_cons_zero, List.set_cons_succ]
        refine anyL_take (i := 3) (oi := { dst := some 60, op := Go.Op.move (Go.Operand.tmp 59), type := 4, pos := "law.go:132", after := #[{ on := 2, ground := Go.Ground.data }, { on := 1, ground := Go.Ground.chain }], guard := none }) (v := ?_) rfl (by decide) (by kernel_rfl) (by kernel_rfl) (by kernel_rfl) (by kernel_rfl) (fun _ _ _ h => h) (Or.inl ⟨by rfl, ?_⟩) S61 ?_
        rotate_left
        · intro wz hSz
          skip
          go_simp
          (try with_reducible rfl)
        try simp only [Act.put, List.setIfInBounds_toArray, List.set_cons_zero, List.set_cons_succ]
        refine anyL_take (i := 4) (oi := { dst := some 61, op := Go.Op.load 30 (Go.Operand.tmp 4), type := 30, pos := "law.go:132", after := #[{ on := 3, ground := Go.Ground.guard }], guard := some (3, true) }) (v := ?_) rfl (by decide) (by kernel_rfl) (by kernel_rfl) (by kernel_rfl) (by kernel_rfl) (fun _ _ _ h => h) (Or.inl ⟨by rfl, ?_⟩) S61 ?_
        rotate_left
        · intro wz hSz
          obtain ⟨⟨x0, x1, x2, x3, x4, x5⟩, ⟨z0, z1, z2, z3, z4, z5⟩, ⟨z6, z7, z8, z9, z10, z11⟩, ⟨z12, z13, z14, z15, z16, z17⟩, -⟩ := hSz
          go_simp
          (try with_reducible rfl)
        try simp only [Act.put, List.setIfInBounds_toArray, List.set_cons_zero, List.set_cons_succ]
        refine anyL_ready (rs := [5]) (by kernel_rfl) (by simp) ?_
        refine AllL.cons (o := { dst := some 62, op := Go.Op.call { callee := Go.Callee.value (Go.Operand.func 8), args := #[Go.Operand.tmp 61], argTypes := #[30] }, type := 3, pos := "law.go:132", after := #[{ on := 4, ground := Go.Ground.data }, { on := 3, ground := Go.Ground.chain }, { on := 3, ground := Go.Ground.guard }], guard := some (3, true) }) rfl (fun K' hK => ?_) AllL.nil
        rw [if_pos (by rfl)]
        go_simp
        go_at_call 8
        refine (k9 _ (qup.out _ HB61.out)).mono ?_
        rintro e62 w62 ⟨rfl, b62⟩
        have S62 := HSI.out _ _ b62 S61
        have HB62 := Lib.hid (HB61.out.trans (b62.mono HB61.out.size))
        refine hK _ _ S62 ?_
        clear hK K' b62 S61
        try simp only [Act.put, List.setIfInBounds_toArray, List.set_cons_zero, List.set_cons_succ]
        refine anyL_take (i := 6) (oi := { dst := some 63, op := Go.Op.binOp Go.BinOp.eql 3 (Go.Operand.tmp 62) (Go.Operand.const (Go.Value.int Go.IntKind.i64 0)) 3, type := 4, pos := "law.go:132", after := #[{ on := 5, ground := Go.Ground.data }, { on := 3, ground := Go.Ground.guard }], guard := some (3, true) }) (v := ?_) rfl (by decide) (by kernel_rfl) (by kernel_rfl) (by kernel_rfl) (by kernel_rfl) (fun _ _ _ h => h) (Or.inl ⟨by rfl, ?_⟩) S62 ?_
        rotate_left
        · intro wz hSz
          skip
          go_simp
          (try with_reducible rfl)
        try simp only [Act.put, List.setIfInBounds_toArray, List.set_cons_zero, List.set_cons_succ]
        refine anyL_take (i := 7) (oi := { dst := some 64, op := Go.Op.pick (Go.Operand.tmp 60) (Go.Operand.tmp 63) (Go.Operand.const (Go.Value.bool false)), type := 4, pos := "law.go:132", after := #[{ on := 3, ground := Go.Ground.data }, { on := 6, ground := Go.Ground.data }], guard := none }) (v := ?_) rfl (by decide) (by kernel_rfl) (by kernel_rfl) (by kernel_rfl) (by kernel_rfl) (fun _ _ _ h => h) (Or.inl ⟨by rfl, ?_⟩) S62 ?_
        rotate_left
        · intro wz hSz
          skip
          go_simp
          (try with_reducible rfl)
        try simp only [Act.put, List.setIfInBounds_toArray, List.set_cons_zero, List.set_cons_succ]
        refine anyL_take (i := 8) (oi := { dst := some 65, op := Go.Op.move (Go.Operand.tmp 64), type := 4, pos := "law.go:132", after := #[{ on := 7, ground := Go.Ground.data }, { on := 5, ground := Go.Ground.chain }], guard := none }) (v := ?_) rfl (by decide) (by kernel_rfl) (by kernel_rfl) (by kernel_rfl) (by kernel_rfl) (fun _ _ _ h => h) (Or.inl ⟨by rfl, ?_⟩) S62 ?_
        rotate_left
        · intro wz hSz
          skip
          go_simp
          (try with_reducible rfl)
        try simp only [Act.put, List.setIfInBounds_toArray, List.set_cons_zero, List.set_cons_succ]
        refine anyL_take (i := 9) (oi := { dst := some 66, op := Go.Op.load 30 (Go.Operand.tmp 4), type := 30, pos := "law.go:132", after := #[{ on := 8, ground := Go.Ground.guard }], guard := some (8, true) }) (v := undef) rfl (by decide) (by kernel_rfl) (by kernel_rfl) (by kernel_rfl) (by kernel_rfl) (fun _ _ _ h => h) (Or.inr ⟨by rfl, rfl⟩) S62 ?_
        try simp only [Act.put, List.setIfInBounds_toArray, List.set_cons_zero, List.set_cons_succ]
        refine anyL_take (i := 10) (oi := { dst := some 67, op := Go.Op.load 30 (Go.Operand.tmp 3), type := 30, pos := "law.go:132", after := #[{ on := 8, ground := Go.Ground.guard }], guard := some (8, true) }) (v := undef) rfl (by decide) (by kernel_rfl) (by kernel_rfl) (by kernel_rfl) (by kernel_rfl) (fun _ _ _ h => h) (Or.inr ⟨by rfl, rfl⟩) S62 ?_
        try simp only [Act.put, List.setIfInBounds_toArray, List.set_cons_zero, List.set_cons_succ]
        refine anyL_take (i := 11) (oi := { dst := some 68, op := Go.Op.call { callee := Go.Callee.value (Go.Operand.func 14), args := #[Go.Operand.tmp 66, Go.Operand.tmp 67], argTypes := #[30, 30] }, type := 30, pos := "law.go:132", after := #[{ on := 9, ground := Go.Ground.data }, { on := 10, ground := Go.Ground.data }, { on := 8, ground := Go.Ground.chain }, { on := 8, ground := Go.Ground.guard }], guard := some (8, true) }) (v := undef) rfl (by decide) (by kernel_rfl) (by kernel_rfl) (by kernel_rfl) (by kernel_rfl) (fun _ _ _ h => h) (Or.inr ⟨by rfl, rfl⟩) S62 ?_
        try simp only [Act.put, List.setIfInBounds_toArray, List.set_cons_zero, List.set_cons_succ]
        refine anyL_take (i := 12) (oi := { dst := some 69, op := Go.Op.load 30 (Go.Operand.tmp 7), type := 30, pos := "law.go:132", after := #[{ on := 8, ground := Go.Ground.guard }], guard := some (8, true) }) (v := undef) rfl (by decide) (by kernel_rfl) (by kernel_rfl) (by kernel_rfl) (by kernel_rfl) (fun _ _ _ h => h) (Or.inr ⟨by rfl, rfl⟩) S62 ?_
        try simp only [Act.put, List.setIfInBounds_toArray, List.set_cons_zero, List.set_cons_succ]
        refine anyL_take (i := 13) (oi := { dst := some 70, op := Go.Op.call { callee := Go.Callee.value (Go.Operand.func 15), args := #[Go.Operand.tmp 68, Go.Operand.tmp 69], argTypes := #[30, 30] }, type := 4, pos := "law.go:132", after := #[{ on := 11, ground := Go.Ground.data }, { on := 12, ground := Go.Ground.data }, { on := 11, ground := Go.Ground.chain }, { on := 8, ground := Go.Ground.guard }], guard := some (8, true) }) (v := undef) rfl (by decide) (by kernel_rfl) (by kernel_rfl) (by kernel_rfl) (by kernel_rfl) (fun _ _ _ h => h) (Or.inr ⟨by rfl, rfl⟩) S62 ?_
        try simp only [Act.put, List.setIfInBounds_toArray, List.set_cons_zero, List.set_cons_succ]
        refine anyL_take (i := 14) (oi := { dst := some 71, op := Go.Op.unOp Go.UnOp.not 4 (Go.Operand.tmp 70), type := 4, pos := "law.go:132", after := #[{ on := 13, ground := Go.Ground.data }, { on := 8, ground := Go.Ground.guard }], guard := some (8, true) }) (v := undef) rfl (by decide) (by kernel_rfl) (by kernel_rfl) (by kernel_rfl) (by kernel_rfl) (fun _ _ _ h => h) (Or.inr ⟨by rfl, rfl⟩) S62 ?_
        try simp only [Act.put, List.setIfInBounds_toArray, List.set_cons_zero, List.set_cons_succ]
        refine anyL_take (i := 15) (oi := { dst := some 72, op := Go.Op.pick (Go.Operand.tmp 65) (Go.Operand.tmp 71) (Go.Operand.const (Go.Value.bool false)), type := 4, pos := "law.go:132", after := #[{ on := 8, ground := Go.Ground.data }, { on := 14, ground := Go.Ground.data }], guard := none }) (v := ?_) rfl (by decide) (by kernel_rfl) (by kernel_rfl) (by kernel_rfl) (by kernel_rfl) (fun _ _ _ h => h) (Or.inl ⟨by rfl, ?_⟩) S62 ?_
        rotate_left
        · intro wz hSz
          skip
          go_simp
          (try with_reducible rfl)
        try simp only [Act.put, List.setIfInBounds_toArray, List.set_cons_zero, List.set_cons_succ]
        refine anyL_done (by kernel_rfl) ?_ _
        go_wp2
        go_meet
        exact ⟨by first | rfl | simp, S62, HB62.out⟩
      rw [hkb, show errZ true = 0 from rfl] at k9
      have k7 := qk7.out
      rw [qco.out hka] at k7
      clear hka hkb
      go_wp2
      refine wp_region_late (S := fun w' => (w'.cell? ⟨nx, 0, none⟩ = some (.slice px L.path.length cx) ∧ w'.cell? ⟨nx, 1, none⟩ = some (.string L.id) ∧ w'.cell? ⟨nx, 2, none⟩ = some (.string L.title) ∧ w'.cell? ⟨nx, 3, none⟩ = some (.string L.link) ∧ w'.cell? ⟨nx, 4, none⟩ = some (.int .i64 L.upd) ∧ w'.cell? ⟨nx, 5, none⟩ = some (.slice none 0 0)) ∧ FBox w' w.heap.size a p1 c1 q1 d1 ∧ FBox w' (w.heap.size + 1) b p2 c2 q2 d2 ∧ FBox w' (w.heap.size + 2) c p3 c3 q3 d3 ∧ True) (D := []) (by kernel_rfl) ?_
      refine anyL_take (i := 0) (oi := { dst := some 57, op := Go.Op.load 30 (Go.Operand.tmp 3), type := 30, pos := "law.go:132", after := #[], guard := none }) (v := ?_) rfl (by decide) (by kernel_rfl) (by kernel_rfl) (by kernel_rfl) (by kernel_rfl) (fun _ _ _ h => h) (Or.inl ⟨by rfl, ?_⟩) SD ?_
      rotate_left
      · intro wz hSz
        obtain ⟨⟨x0, x1, x2, x3, x4, x5⟩, ⟨z0, z1, z2, z3, z4, z5⟩, ⟨z6, z7, z8, z9, z10, z11⟩, ⟨z12, z13, z14, z15, z16, z17⟩, -⟩ := hSz
        go_simp
        (try with_reducible rfl)
      try simp only [Act.put, List.setIfInBounds_toArray, List.set_cons_zero, List.set_cons_succ]
      refine anyL_ready (rs := [1]) (by kernel_rfl) (by simp) ?_
      refine AllL.cons (o := { dst := some 58, op := Go.Op.call { callee := Go.Callee.value (Go.Operand.func 8), args := #[Go.Operand.tmp 57], argTypes := #[30] }, type := 3, pos := "law.go:132", after := #[{ on := 0, ground := Go.Ground.data }], guard := none }) rfl (fun K' hK => ?_) AllL.nil
      rw [if_pos (by rfl)]
      go_simp
      go_at_call 8
      refine (k8 _ (qup.out _ HD.out)).mono ?_
      rintro e61 w61 ⟨rfl, b61⟩
      have S61 := HSI.out _ _ b61 SD
      have HB61 := Lib.hid (HD.out.trans (b61.mono HD.out.size))
      refine hK _ _ S61 ?_
      clear hK K' b61 SD
      try simp only [Act.put, List.setIfInBounds_toArray, List.set_cons_zero, List.set_cons_succ]
      refine anyL_take (i := 2) (oi := { dst := some 59, op := Go.Op.binOp Go.BinOp.eql 3 (Go.Operand.tmp 58) (Go.Operand.const (Go.Value.int Go.IntKind.i64 0)) 3, type := 4, pos := "law.go:132", after := #[{ on := 1, ground := Go.Ground.data }], guard := none }) (v := ?_) rfl (by decide) (by kernel_rfl) (by kernel_rfl) (by kernel_rfl) (by kernel_rfl) (fun _ _ _ h => h) (Or.inl ⟨by rfl, ?_⟩) S61 ?_
      rotate_left
      · intro wz hSz
        skip
        go_simp
        (try with_reducible rfl)
      try simp only [Act.put, List.setIfInBounds_toArray, List.set_cons_zero, List.set_cons_succ]
      refine anyL_take (i := 3) (oi := { dst := some 60, op := Go.Op.move (Go.Operand.tmp 59), type := 4, pos := "law.go:132", after := #[{ on := 2, ground := Go.Ground.data }, { on := 1, ground := Go.Ground.chain }], guard := none }) (v := ?_) rfl (by decide) (by kernel_rfl) (by kernel_rfl) (by kernel_rfl) (by kernel_rfl) (fun _ _ _ h => h) (Or.inl ⟨by rfl, ?_⟩) S61 ?_
      rotate_left
      · intro wz hSz
        skip
        go_simp
        (try with_reducible rfl)
      try simp only [Act.put, List.setIfInBounds_toArray, List.set_cons_zero, List.set_cons_succ]
      refine anyL_take (i := 4) (oi := { dst := some 61, op := Go.Op.load 30 (Go.Operand.tmp 4), type := 30, pos := "law.go:132", after := #[{ on := 3, ground := Go.Ground.guard }], guard := some (3, true) }) (v := ?_) rfl (by decide) (by kernel_rfl) (by kernel_rfl) (by kernel_rfl) (by kernel_rfl) (fun _ _ _ h => h) (Or.inl ⟨by rfl, ?_⟩) S61 ?_
      rotate_left
      · intro wz hSz
        obtain ⟨⟨x0, x1, x2, x3, x4, x5⟩, ⟨z0, z1, z2, z3, z4, z5⟩, ⟨z6, z7, z8, z9, z10, z11⟩, ⟨z12, z13, z14, z15, z16, z17⟩, -⟩ := hSz
        go_simp
        (try with_reducible rfl)
      try simp only [Act.put, List.setIfInBounds_toArray, List.set_cons_zero, List.set_cons_succ]
      refine anyL_ready (rs := [5]) (by kernel_rfl) (by simp) ?_
      refine AllL.cons (o := { dst := some 62, op := Go.Op.call { callee := Go.Callee.value (Go.Operand.func 8), args := #[Go.Operand.tmp 61], argTypes := #[30] }, type := 3, pos := "law.go:132", after := #[{ on := 4, ground := Go.Ground.data }, { on := 3, ground := Go.Ground.chain }, { on := 3, ground := Go.Ground.guard }], guard := some (3, true) }) rfl (fun K' hK => ?_) AllL.nil
      rw [if_pos (by rfl)]
      go_simp
      go_at_call 8
      refine (k9 _ (qup.out _ HB61.out)).mono ?_
      rintro e62 w62 ⟨rfl, b62⟩
      have S62 := HSI.out _ _ b62 S61
      have HB62 := Lib.hid (HB61.out.trans (b62.mono HB61.out.size))
      refine hK _ _ S62 ?_
      clear hK K' b62 S61
      try simp only [Act.put, List.setIfInBounds_toArray, List.set_cons_zero, List.set_cons_succ]
      refine anyL_take (i := 6) (oi := { dst := some 63, op := Go.Op.binOp Go.BinOp.eql 3 (Go.Operand.tmp 62) (Go.Operand.const (Go.Value.int Go.IntKind.i64 0)) 3, type := 4, pos := "law.go:132", after := #[{ on := 5, ground := Go.Ground.data }, { on := 3, ground := Go.Ground.guard }], guard := some (3, true) }) (v := ?_) rfl (by decide) (by kernel_rfl) (by kernel_rfl) (by kernel_rfl) (by kernel_rfl) (fun _ _ _ h => h) (Or.inl ⟨by rfl, ?_⟩) S62 ?_
      rotate_left
      · intro wz hSz
        skip
        go_simp
        (try with_reducible rfl)
      try simp only [Act.put, List.setIfInBounds_toArray, List.set_cons_zero, List.set_cons_succ]
      refine anyL_take (i := 7) (oi := { dst := some 64, op := Go.Op.pick (Go.Operand.tmp 60) (Go.Operand.tmp 63) (Go.Operand.const (Go.Value.bool false)), type := 4, pos := "law.go:132", after := #[{ on := 3, ground := Go.Ground.data }, { on := 6, ground := Go.Ground.data }], guard := none }) (v := ?_) rfl (by decide) (by kernel_rfl) (by kernel_rfl) (by kernel_rfl) (by kernel_rfl) (fun _ _ _ h => h) (Or.inl ⟨by rfl, ?_⟩) S62 ?_
      rotate_left
      · intro wz hSz
        skip
        go_simp
        (try with_reducible rfl)
      try simp only [Act.put, List.setIfInBounds_toArray, List.set_cons_zero, List.set_cons_succ]
      refine anyL_take (i := 8) (oi := { dst := some 65, op := Go.Op.move (Go.Operand.tmp 64), type := 4, pos := "law.go:132", after := #[{ on := 7, ground := Go.Ground.data }, { on := 5, ground := Go.Ground.chain }], guard := none }) (v := ?_) rfl (by decide) (by kernel_rfl) (by kernel_rfl) (by kernel_rfl) (by kernel_rfl) (fun _ _ _ h => h) (Or.inl ⟨by rfl, ?_⟩) S62 ?_
      rotate_left
      · intro wz hSz
        skip
        go_simp
        (try with_reducible rfl)
      try simp only [Act.put, List.setIfInBounds_toArray, List.set_cons_zero, List.set_cons_succ]
      refine anyL_take (i := 9) (oi := { dst := some 66, op := Go.Op.load 30 (Go.Operand.tmp 4), type := 30, pos := "law.go:132", after := #[{ on := 8, ground := Go.Ground.guard }], guard := some (8, true) }) (v := ?_) rfl (by decide) (by kernel_rfl) (by kernel_rfl) (by kernel_rfl) (by kernel_rfl) (fun _ _ _ h => h) (Or.inl ⟨by rfl, ?_⟩) S62 ?_
      rotate_left
      · intro wz hSz
        obtain ⟨⟨x0, x1, x2, x3, x4, x5⟩, ⟨z0, z1, z2, z3, z4, z5⟩, ⟨z6, z7, z8, z9, z10, z11⟩, ⟨z12, z13, z14, z15, z16, z17⟩, -⟩ := hSz
        go_simp
        (try with_reducible rfl)
      try simp only [Act.put, List.setIfInBounds_toArray, List.set_cons_zero, List.set_cons_succ]
      refine anyL_take (i := 10) (oi := { dst := some 67, op := Go.Op.load 30 (Go.Operand.tmp 3), type := 30, pos := "law.go:132", after := #[{ on := 8, ground := Go.Ground.guard }], guard := some (8, true) }) (v := ?_) rfl (by decide) (by kernel_rfl) (by kernel_rfl) (by kernel_rfl) (by kernel_rfl) (fun _ _ _ h => h) (Or.inl ⟨by rfl, ?_⟩) S62 ?_
      rotate_left
      · intro wz hSz
        obtain ⟨⟨x0, x1, x2, x3, x4, x5⟩, ⟨z0, z1, z2, z3, z4, z5⟩, ⟨z6, z7, z8, z9, z10, z11⟩, ⟨z12, z13, z14, z15, z16, z17⟩, -⟩ := hSz
        go_simp
        (try with_reducible rfl)
      try simp only [Act.put, List.setIfInBounds_toArray, List.set_cons_zero, List.set_cons_succ]
      refine anyL_take (i := 12) (oi := { dst := some 69, op := Go.Op.load 30 (Go.Operand.tmp 7), type := 30, pos := "law.go:132", after := #[{ on := 8, ground := Go.Ground.guard }], guard := some (8, true) }) (v := ?_) rfl (by decide) (by kernel_rfl) (by kernel_rfl) (by kernel_rfl) (by kernel_rfl) (fun _ _ _ h => h) (Or.inl ⟨by rfl, ?_⟩) S62 ?_
      rotate_left
      · intro wz hSz
        obtain ⟨⟨x0, x1, x2, x3, x4, x5⟩, ⟨z0, z1, z2, z3, z4, z5⟩, ⟨z6, z7, z8, z9, z10, z11⟩, ⟨z12, z13, z14, z15, z16, z17⟩, -⟩ := hSz
        go_simp
        (try with_reducible rfl)
      try simp only [Act.put, List.setIfInBounds_toArray, List.set_cons_zero, List.set_cons_succ]
      refine anyL_ready (rs := [11]) (by kernel_rfl) (by simp) ?_
      refine AllL.cons (o := { dst := some 68, op := Go.Op.call { callee := Go.Callee.value (Go.Operand.func 14), args := #[Go.Operand.tmp 66, Go.Operand.tmp 67], argTypes := #[30, 30] }, type := 30, pos := "law.go:132", after := #[{ on := 9, ground := Go.Ground.data }, { on := 10, ground := Go.Ground.data }, { on := 8, ground := Go.Ground.chain }, { on := 8, ground := Go.Ground.guard }], guard := some (8, true) }) rfl (fun K' hK => ?_) AllL.nil
      rw [if_pos (by rfl)]
      go_simp
      go_at_call 14
      refine (k7 _ (qup.out _ HB62.out)).mono ?_
      rintro e63 w63 ⟨p63, c63, rfl, ho63, b63⟩
      have S63 := HSI.out _ _ b63 S62
      have HB63 := Lib.hid (HB62.out.trans (b63.mono HB62.out.size))
      refine hK _ _ S63 ?_
      clear hK K' b63 S62
      try simp only [Act.put, List.setIfInBounds_toArray, List.set_cons_zero, List.set_cons_succ]
      refine anyL_ready (rs := [13]) (by kernel_rfl) (by simp) ?_
      refine AllL.cons (o := { dst := some 70, op := Go.Op.call { callee := Go.Callee.value (Go.Operand.func 15), args := #[Go.Operand.tmp 68, Go.Operand.tmp 69], argTypes := #[30, 30] }, type := 4, pos := "law.go:132", after := #[{ on := 11, ground := Go.Ground.data }, { on := 12, ground := Go.Ground.data }, { on := 11, ground := Go.Ground.chain }, { on := 8, ground := Go.Ground.guard }], guard := some (8, true) }) rfl (fun K' hK => ?_) AllL.nil
      rw [if_pos (by rfl)]
      go_simp
      go_at_call 15
      refine (qm1.out _ _ _ (later_is ho63 qLe.out) (HXF.out.below HB63.out)).mono ?_
      rintro e64 w64 ⟨rfl, b64⟩
      have S64 := HSI.out _ _ b64 S63
      have HB64 := Lib.hid (HB63.out.trans (b64.mono HB63.out.size))
      refine hK _ _ S64 ?_
      clear hK K' b64 S63
      try simp only [Act.put, List.setIfInBounds_toArray, List.set_cons_zero, List.set_cons_succ]
      refine anyL_take (i := 14) (oi := { dst := some 71, op := Go.Op.unOp Go.UnOp.not 4 (Go.Operand.tmp 70), type := 4, pos := "law.go:132", after := #[{ on := 13, ground := Go.Ground.data }, { on := 8, ground := Go.Ground.guard }], guard := some (8, true) }) (v := ?_) rfl (by decide) (by kernel_rfl) (by kernel_rfl) (by kernel_rfl) (by kernel_rfl) (fun _ _ _ h => h) (Or.inl ⟨by rfl, ?_⟩) S64 ?_
      rotate_left
      · intro wz hSz
        skip
        go_simp
        (try with_reducible rfl)
      try simp only [Act.put, List.setIfInBounds_toArray, List.set_cons_zero, List.set_cons_succ]
      refine anyL_take (i := 15) (oi := { dst := some 72, op := Go.Op.pick (Go.Operand.tmp 65) (Go.Operand.tmp 71) (Go.Operand.const (Go.Value.bool false)), type := 4, pos := "law.go:132", after := #[{ on := 8, ground := Go.Ground.data }, { on := 14, ground := Go.Ground.data }], guard := none }) (v := ?_) rfl (by decide) (by kernel_rfl) (by kernel_rfl) (by kernel_rfl) (by kernel_rfl) (fun _ _ _ h => h) (Or.inl ⟨by rfl, ?_⟩) S64 ?_
      rotate_left
      · intro wz hSz
        skip
        go_simp
        (try with_reducible rfl)
      try simp only [Act.put, List.setIfInBounds_toArray, List.set_cons_zero, List.set_cons_succ]
      refine anyL_done (by kernel_rfl) ?_ _
      go_wp2
      go_meet
      exact ⟨by first | rfl | simp, S64, HB64.out⟩
    case rest =>
      obtain ⟨rfl, hS2, hB2⟩ := hcut
      clear SE HE x0 x1 x2 x3 x4 x5 f00 f01 f02 f03 f04 f05 f10 f11 f12 f13 f14 f15 f20 f21 f22 f23 f24 f25 qk3 qk4 qk5 qk6 qk7 qk8 qk9 qm2 qco qBe qYe HXF
      have HOc := Lib.hid (jrow_same HO5.out (fun g hg => hB2.block g (HO5.out.lt g hg).2))
      have HMc := Lib.hid (HMX.out.more hB2)
      have H3c := Lib.hid (H35.out.trans (hB2.mono H35.out.size))
      obtain ⟨⟨x0, x1, x2, x3, x4, x5⟩, ⟨f00, f01, f02, f03, f04, f05⟩, ⟨f10, f11, f12, f13, f14, f15⟩, ⟨f20, f21, f22, f23, f24, f25⟩, -⟩ := hS2
      clear hB2
      go_wp2
      go_loopw [76] (fun q wr => ∃ (i : Nat) (xs : List Value), i ≤ L.path.length ∧ xs.length = L.path.length ∧ (∀ u ∈ xs, ∃ s, u = .string s) ∧ q = .int .i64 (i : Int) ∧ wr.ownsRow w3.heap.size 9 1 (.slice px L.path.length cx) L.path.length xs ∧ MBlk wr nx #[.slice px L.path.length cx, .string L.id, .string L.title, .string L.link, .int .i64 L.upd, .slice none 0 0] 30 ∧ Below w3.heap.size w3 wr) (fun q _ => L.path.length - (RowKit.intOf q).toNat)
      case atStart => exact ⟨0, _, Nat.zero_le _, by rw [List.length_map], (fun u hu => by obtain ⟨s, -, rfl⟩ := List.mem_map.1 hu; exact ⟨s, rfl⟩), rfl, HOc.out, HMc.out, H3c.out⟩
      case round =>
        clear HOc HMc H3c x0 x1 x2 x3 x4 x5 f00 f01 f02 f03 f04 f05 f10 f11 f12 f13 f14 f15 f20 f21 f22 f23 f24 f25
        obtain ⟨i, xs, hi, hxl, hstr, rfl, ho, hM, hbo⟩ := hrel
        by_cases hlt : i < L.path.length
        · have hiz : (i : Int) < (L.path.length : Int) := by omega
          obtain ⟨g, cap, hv, hg1, hg2⟩ := ho.form (by omega)
          obtain ⟨rfl, rfl⟩ : px = some ⟨g, 0, none⟩ ∧ cx = cap := by injection hv with h1 _ h3; exact ⟨h1, h3⟩
          clear hv
          have hgn : g < nx := HLT.out g rfl
          have hc0 : wr.cell? ⟨g, i, none⟩ = some (xs[i]'(by omega)) := (jadd g i) ▸ World.ownsRow.cells ho (g := g) rfl i _ (List.getElem?_eq_getElem (by omega))
          obtain ⟨u, hu⟩ : ∃ u, xs[i]'(by omega) = u := ⟨_, rfl⟩
          obtain ⟨su, rfl⟩ := hstr u (by rw [← hu]; exact List.getElem_mem _)
          rw [hu] at hc0
          have hf0 : wr.frozen? ⟨g, i, none⟩ = false := ho.frozenAt _
          have x0 := hM.cell 0
          simp only [List.getElem?_toArray, List.getElem?_cons_zero] at x0
          have hst := ho.stored i (.string ⟨#[63]⟩)
          have HO2 := Lib.hid hst.1
          have HM2 := Lib.hid (mq_far hM (show nx ≠ g by omega) (.string ⟨#[63]⟩) (o := i))
          have HB2 := Lib.hid (hbo.setCell (p := ⟨g, i, none⟩) hg1 (.string ⟨#[63]⟩))
          have HSR := Lib.hid hstr
          clear hst ho hM hbo hu hstr
          go_wp2
          go_roundw
          case rel => exact ⟨i + 1, _, by omega, by rw [List.length_set]; exact hxl, (fun u hu => by rcases List.mem_or_eq_of_mem_set hu with h | rfl; (exact HSR.out u h); exact ⟨_, rfl⟩), by go_num, HO2.out, HM2.out, HB2.out⟩
          case measure => simp [RowKit.intOf]; omega
        · obtain rfl : i = L.path.length := by omega
          have hiz : ¬ (L.path.length : Int) < (L.path.length : Int) := by omega
          have HSw := Lib.hid (HSB.out _ _ hbo HS3.out)
          have HBw := Lib.hid (HB3.out.trans (hbo.mono HB3.out.size))
          clear ho hM hbo hxl hstr HS3 HB3 HO5 HLT HMX
          go_wp2
          have SD : FBox wr.drew w.heap.size a p1 c1 q1 d1 ∧ FBox wr.drew (w.heap.size + 1) b p2 c2 q2 d2 ∧ FBox wr.drew (w.heap.size + 2) c p3 c3 q3 d3 ∧ True := HSw.out
          have HD := Lib.hid (show Below w.heap.size w wr.drew from HBw.out.drew)
          clear HSw HBw
          refine wp_region_late (S := fun w' => FBox w' w.heap.size a p1 c1 q1 d1 ∧ FBox w' (w.heap.size + 1) b p2 c2 q2 d2 ∧ FBox w' (w.heap.size + 2) c p3 c3 q3 d3 ∧ True) (D := []) (by kernel_rfl) ?_
          refine anyL_ready (rs := [0]) (by kernel_rfl) (by simp) ?_
          refine AllL.cons (o := { dst := some 84, op := Go.Op.call { callee := Go.Callee.value (Go.Operand.func 6), args := #[], argTypes := #[] }, type := 4, pos := "law.go:138", after := #[], guard := none }) rfl (fun K' hK => ?_) AllL.nil
          rw [if_pos (by rfl)]
          go_simp
          go_at_call 6
          refine (qcA.out _ HD.out).mono ?_
          rintro e91 w91 ⟨rfl, b91⟩
          have S91 := HSB.out _ _ b91 SD
          have HB91 := Lib.hid (HD.out.trans (b91.mono HD.out.size))
          refine hK _ _ S91 ?_
          clear hK K' b91 SD
          try simp only [Act.put, List.setIfInBounds_toArray, List.set_cons_zero, List.set_cons_succ]
          refine anyL_take (i := 1) (oi := { dst := some 85, op := Go.Op.move (Go.Operand.tmp 84), type := 4, pos := "law.go:138", after := #[{ on := 0, ground := Go.Ground.data }, { on := 0, ground := Go.Ground.chain }], guard := none }) (v := ?_) rfl (by decide) (by kernel_rfl) (by kernel_rfl) (by kernel_rfl) (by kernel_rfl) (fun _ _ _ h => h) (Or.inl ⟨by rfl, ?_⟩) S91 ?_
          rotate_left
          · intro wz hSz
            skip
            go_simp
            (try with_reducible rfl)
          try simp only [Act.put, List.setIfInBounds_toArray, List.set_cons_zero, List.set_cons_succ]
          refine anyL_take (i := 2) (oi := { dst := some 86, op := Go.Op.load 30 (Go.Operand.tmp 3), type := 30, pos := "law.go:138", after := #[{ on := 1, ground := Go.Ground.guard }], guard := some (1, true) }) (v := ?_) rfl (by decide) (by kernel_rfl) (by kernel_rfl) (by kernel_rfl) (by kernel_rfl) (fun _ _ _ h => h) (Or.inl ⟨by rfl, ?_⟩) S91 ?_
          rotate_left
          · intro wz hSz
            obtain ⟨⟨z0, z1, z2, z3, z4, z5⟩, ⟨z6, z7, z8, z9, z10, z11⟩, ⟨z12, z13, z14, z15, z16, z17⟩, -⟩ := hSz
            go_simp
            (try with_reducible rfl)
          try simp only [Act.put, List.setIfInBounds_toArray, List.set_cons_zero, List.set_cons_succ]
          refine anyL_take (i := 3) (oi := { dst := some 87, op := Go.Op.load 30 (Go.Operand.tmp 4), type := 30, pos := "law.go:138", after := #[{ on := 1, ground := Go.Ground.guard }], guard := some (1, true) }) (v := ?_) rfl (by decide) (by kernel_rfl) (by kernel_rfl) (by kernel_rfl) (by kernel_rfl) (fun _ _ _ h => h) (Or.inl ⟨by rfl, ?_⟩) S91 ?_
          rotate_left
          · intro wz hSz
            obtain ⟨⟨z0, z1, z2, z3, z4, z5⟩, ⟨z6, z7, z8, z9, z10, z11⟩, ⟨z12, z13, z14, z15, z16, z17⟩, -⟩ := hSz
            go_simp
            (try with_reducible rfl)
          try simp only [Act.put, List.setIfInBounds_toArray, List.set_cons_zero, List.set_cons_succ]
          refine anyL_take (i := 5) (oi := { dst := some 89, op := Go.Op.load 30 (Go.Operand.tmp 3), type := 30, pos := "law.go:138", after := #[{ on := 1, ground := Go.Ground.guard }], guard := some (1, true) }) (v := ?_) rfl (by decide) (by kernel_rfl) (by kernel_rfl) (by kernel_rfl) (by kernel_rfl) (fun _ _ _ h => h) (Or.inl ⟨by rfl, ?_⟩) S91 ?_
          rotate_left
          · intro wz hSz
            obtain ⟨⟨z0, z1, z2, z3, z4, z5⟩, ⟨z6, z7, z8, z9, z10, z11⟩, ⟨z12, z13, z14, z15, z16, z17⟩, -⟩ := hSz
            go_simp
            (try with_reducible rfl)
          try simp only [Act.put, List.setIfInBounds_toArray, List.set_cons_zero, List.set_cons_succ]
          refine anyL_take (i := 6) (oi := { dst := some 90, op := Go.Op.load 30 (Go.Operand.tmp 4), type := 30, pos := "law.go:138", after := #[{ on := 1, ground := Go.Ground.guard }], guard := some (1, true) }) (v := ?_) rfl (by decide) (by kernel_rfl) (by kernel_rfl) (by kernel_rfl) (by kernel_rfl) (fun _ _ _ h => h) (Or.inl ⟨by rfl, ?_⟩) S91 ?_
          rotate_left
          · intro wz hSz
            obtain ⟨⟨z0, z1, z2, z3, z4, z5⟩, ⟨z6, z7, z8, z9, z10, z11⟩, ⟨z12, z13, z14, z15, z16, z17⟩, -⟩ := hSz
            go_simp
            (try with_reducible rfl)
          try simp only [Act.put, List.setIfInBounds_toArray, List.set_cons_zero, List.set_cons_succ]
          refine anyL_ready (rs := [4]) (by kernel_rfl) (by simp) ?_
          refine AllL.cons (o := { dst := some 88, op := Go.Op.call { callee := Go.Callee.value (Go.Operand.func 14), args := #[Go.Operand.tmp 86, Go.Operand.tmp 87], argTypes := #[30, 30] }, type := 30, pos := "law.go:138", after := #[{ on := 2, ground := Go.Ground.data }, { on := 3, ground := Go.Ground.data }, { on := 1, ground := Go.Ground.chain }, { on := 1, ground := Go.Ground.guard }], guard := some (1, true) }) rfl (fun K' hK => ?_) AllL.nil
          rw [if_pos (by rfl)]
          go_simp
          go_at_call 14
          refine (qk1.out _ HB91.out).mono ?_
          rintro e92 w92 ⟨p92, c92, rfl, ho92, b92⟩
          have S92 := HSB.out _ _ b92 S91
          have HB92 := Lib.hid (HB91.out.trans (b92.mono HB91.out.size))
          refine hK _ _ S92 ?_
          clear hK K' b92 S91
          try simp only [Act.put, List.setIfInBounds_toArray, List.set_cons_zero, List.set_cons_succ]
          refine anyL_ready (rs := [7]) (by kernel_rfl) (by simp) ?_
          refine AllL.cons (o := { dst := some 91, op := Go.Op.call { callee := Go.Callee.value (Go.Operand.func 16), args := #[Go.Operand.tmp 89, Go.Operand.tmp 90], argTypes := #[30, 30] }, type := 30, pos := "law.go:138", after := #[{ on := 5, ground := Go.Ground.data }, { on := 6, ground := Go.Ground.data }, { on := 4, ground := Go.Ground.chain }, { on := 1, ground := Go.Ground.guard }], guard := some (1, true) }) rfl (fun K' hK => ?_) AllL.nil
          rw [if_pos (by rfl)]
          go_simp
          go_at_call 16
          refine (qk2.out _ HB92.out).mono ?_
          rintro e93 w93 ⟨⟨v93, rfl, hv93⟩, b93⟩
          have S93 := HSB.out _ _ b93 S92
          have HB93 := Lib.hid (HB92.out.trans (b93.mono HB92.out.size))
          have hF93 := (later_is ho92 qLe.out).below b93
          refine hK _ _ S93 ?_
          clear hK K' b93 S92
          try simp only [Act.put, List.setIfInBounds_toArray, List.set_cons_zero, List.set_cons_succ]
          refine anyL_ready (rs := [8]) (by kernel_rfl) (by simp) ?_
          refine AllL.cons (o := { dst := some 92, op := Go.Op.call { callee := Go.Callee.value (Go.Operand.func 15), args := #[Go.Operand.tmp 88, Go.Operand.tmp 91], argTypes := #[30, 30] }, type := 4, pos := "law.go:138", after := #[{ on := 4, ground := Go.Ground.data }, { on := 7, ground := Go.Ground.data }, { on := 7, ground := Go.Ground.chain }, { on := 1, ground := Go.Ground.guard }], guard := some (1, true) }) rfl (fun K' hK => ?_) AllL.nil
          rw [if_pos (by rfl)]
          go_simp
          go_at_call 15
          refine (qm1.out _ _ _ hF93 hv93).mono ?_
          rintro e94 w94 ⟨rfl, b94⟩
          have S94 := HSB.out _ _ b94 S93
          have HB94 := Lib.hid (HB93.out.trans (b94.mono HB93.out.size))
          refine hK _ _ S94 ?_
          clear hK K' b94 S93
          try simp only [Act.put, List.setIfInBounds_toArray, List.set_cons_zero, List.set_cons_succ]
          refine anyL_take (i := 9) (oi := { dst := some 93, op := Go.Op.pick (Go.Operand.tmp 85) (Go.Operand.tmp 92) (Go.Operand.const (Go.Value.bool false)), type := 4, pos := "law.go:138", after := #[{ on := 1, ground := Go.Ground.data }, { on := 8, ground := Go.Ground.data }], guard := none }) (v := ?_) rfl (by decide) (by kernel_rfl) (by kernel_rfl) (by kernel_rfl) (by kernel_rfl) (fun _ _ _ h => h) (Or.inl ⟨by rfl, ?_⟩) S94 ?_
          rotate_left
          · intro wz hSz
            skip
            go_simp
            (try with_reducible rfl)
          try simp only [Act.put, List.setIfInBounds_toArray, List.set_cons_zero, List.set_cons_succ]
          refine anyL_take (i := 10) (oi := { dst := some 6, op := Go.Op.assign (Go.Operand.tmp 93), type := 4, pos := "law.go:138", after := #[{ on := 9, ground := Go.Ground.data }, { on := 8, ground := Go.Ground.chain }, { on := 0, ground := Go.Ground.phase }, { on := 1, ground := Go.Ground.phase }, { on := 2, ground := Go.Ground.phase }, { on := 3, ground := Go.Ground.phase }, { on := 4, ground := Go.Ground.phase }, { on := 5, ground := Go.Ground.phase }, { on := 6, ground := Go.Ground.phase }, { on := 7, ground := Go.Ground.phase }, { on := 8, ground := Go.Ground.phase }, { on := 9, ground := Go.Ground.phase }], guard := none }) (v := ?_) rfl (by decide) (by kernel_rfl) (by kernel_rfl) (by kernel_rfl) (by kernel_rfl) (fun _ _ _ h => h) (Or.inl ⟨by rfl, ?_⟩) S94 ?_
          rotate_left
          · intro wz hSz
            skip
            go_simp
            (try with_reducible rfl)
          try simp only [Act.put, List.setIfInBounds_toArray, List.set_cons_zero, List.set_cons_succ]
          refine anyL_done (by kernel_rfl) ?_ _
          go_wp2
          go_ret
          exact ⟨by first | rfl | simp, HB94.out⟩
theorem walk_LaterFeed (a b c : FeedD) (v1 v2 v3 : Value) (w : World) (ha : FeedIs w a v1) (hb : FeedIs w b v2) (hc : FeedIs w c v3) (hOa : FOpen a) (hOb : FOpen b) (hOc : FOpen c) (hT : TabW w):
    Calls Tryz.prog 4 #[v1, v2, v3] w fun e' w' => e' = .returned (.bool true) ∧ Below w.heap.size w w' := by
  rcases hl1 : tlF 0 [a] with _ | _
  · rcases hl2 : tlF 0 [b] with _ | _
    · rcases hl3 : tlF 0 [c] with _ | _
      · exact walk_LaterFeedD a b c v1 v2 v3 w ha hb hc hOa hOb hOc hT hl1 hl2 hl3
      · exact walk_LaterFeedC a b c v1 v2 v3 w ha hb hc hOa hOb hOc hT hl1 hl2 hl3
    · exact walk_LaterFeedB a b c v1 v2 v3 w ha hb hc hOa hOb hOc hT hl1 hl2
  · exact walk_LaterFeedA a b c v1 v2 v3 w ha hb hc hOa hOb hOc hT hl1
end Go.Proofs.YtggfblodjanfkaaGreatDoor
end
