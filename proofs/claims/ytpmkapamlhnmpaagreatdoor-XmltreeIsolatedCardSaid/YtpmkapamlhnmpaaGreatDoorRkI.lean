/- Packed from the texts TrfS TrfG TrfB TrfC TrfI TrlI. -/
import Derived.Test.YtpmkapamlhnmpaaGreatDoorRRfcW
import Derived.Test.YtpmkapamlhnmpaaGreatDoorRTokX
import Derived.Test.YtpmkapamlhnmpaaGreatDoorRkB
import Derived.Test.YtpmkapamlhnmpaaGreatDoorRkD
import Derived.Test.YtpmkapamlhnmpaaGreatDoorRkF
import Derived.Test.YtpmkapamlhnmpaaGreatDoorCards
import Derived.Test.YtpmkapamlhnmpaaGreatDoorTie
import Derived.ProofKit
import Derived.OpenShut
import Derived.SliceStrings
import Derived.SizedLaws
import Derived.Lay
import Derived.LaidOnce
import Derived.SevenTiedAt
section
namespace Go.Proofs.YtpmkapamlhnmpaaGreatDoor
open Go.RowKit
def vB (n : Nat) : Nat := (n + 1) * (n + 4)
theorem contP_va (l : List UInt8) (i j : Nat) (v : Bool) (hj : j ≤ l.length) : (contP l i j v).1.length ≤ vB l.length := by
  have h := contF_len l j v (j + 1) i []
  unfold contP vB
  refine Nat.le_trans h ?_
  rw [List.length_nil, Nat.zero_add]
  exact Nat.mul_le_mul_right _ (by omega)
theorem attr4_va (s : ByteArray) (i : Nat) (N : List UInt8) (e : Nat) (c : List UInt8 × Int × Int) : (attr4 s i N e c).1.2.length ≤ c.1.length := by
  unfold attr4
  split
  · exact Nat.zero_le _
  · split
    · exact Nat.zero_le _
    · split
      · exact Nat.zero_le _
      · exact Nat.le_refl _
theorem attrP_va (s : ByteArray) (i a : Nat) : (attrP s i a).1.2.length ≤ vB s.data.toList.length := by
  have q : ∀ (m : Nat) (N : List UInt8) (x : UInt8), hasP s.data.toList (m : Int) [x] = true → (attr3 s i N m (quoAt s.data.toList x (m + 1))).1.2.length ≤ vB s.data.toList.length := fun m N x h => by
    have h1 := hasP_len h (by simp)
    have h2 := quoAt_le s.data.toList x (m + 1) (by simpa using h1)
    unfold attr3
    exact Nat.le_trans (attr4_va _ _ _ _ _) (contP_va _ _ _ _ h2.2)
  unfold attrP
  split
  · exact Nat.zero_le _
  · unfold attr1
    split
    · unfold attr2
      split
      · rename_i h; exact q _ _ _ h
      · split
        · rename_i h; exact q _ _ _ h
        · exact Nat.zero_le _
    · exact Nat.zero_le _
theorem startGo_va (s : ByteArray) (i : Nat) (N : List UInt8) : ∀ f a acc, (∀ x ∈ acc, x.va.size ≤ vB s.data.toList.length) → (startGo s i N f a acc).nm = N ∧ ∀ x ∈ (startGo s i N f a acc).al, x.va.size ≤ vB s.data.toList.length
  | 0, _, acc, h => ⟨rfl, h⟩
  | f + 1, a, acc, h => by
    rw [startGo]
    split
    · exact ⟨rfl, h⟩
    · split
      · exact ⟨rfl, h⟩
      · split
        · exact ⟨rfl, h⟩
        · split
          · exact ⟨rfl, h⟩
          · split
            · exact ⟨rfl, h⟩
            · split
              · exact ⟨rfl, h⟩
              · refine startGo_va s i N f _ _ fun x hx => ?_
                rcases List.mem_append.1 hx with hx | hx
                · exact h x hx
                · rw [List.mem_singleton.1 hx]
                  show (ofBytes _).size ≤ _
                  rw [ofBytes_size]
                  exact attrP_va s i _
theorem startP_va (s : ByteArray) (i : Nat) : (startP s i).nm.length ≤ s.data.toList.length ∧ ∀ x ∈ (startP s i).al, x.va.size ≤ vB s.data.toList.length := by
  unfold startP
  split
  · exact ⟨Nat.zero_le _, fun x hx => by cases hx⟩
  · obtain ⟨h1, h2⟩ := startGo_va s i ((s.data.toList.drop (i + 1)).take (nmP s (i + 1) - (i + 1))) (s.size + 1) (nmP s (i + 1)) [] (fun x hx => by cases hx)
    refine ⟨?_, h2⟩
    rw [h1, List.length_take, List.length_drop]
    omega
def TvOk (n : Nat) (t : TokD) : Prop := (t.kind = 1 → t.nm.length ≤ n) ∧ ∀ x ∈ t.al, x.va.size ≤ vB n
theorem consP_tv (s : ByteArray) (i : Nat) : TvOk s.data.toList.length (consP s i).1 := by
  have z : ∀ t : TokD, t.kind ≠ 1 → t.al = [] → TvOk s.data.toList.length t := fun t h1 h2 => ⟨fun h => absurd h h1, fun x hx => by rw [h2] at hx; cases hx⟩
  unfold consP
  split
  · exact z _ (by show ¬ (3 : Int) = 1; decide) rfl
  · split
    · exact z _ (by show ¬ (3 : Int) = 1; decide) rfl
    · split
      · unfold cdataP
        split
        · exact z _ (by first | (show ¬ (0 : Int) = 1; decide) | (show ¬ (3 : Int) = 1; decide)) rfl
        · exact z _ (by show ¬ (3 : Int) = 1; decide) rfl
      · split
        · exact z _ (by show ¬ (0 : Int) = 1; decide) rfl
        · split
          · exact z _ (by show ¬ (0 : Int) = 1; decide) rfl
          · split
            · exact z _ (by show ¬ (2 : Int) = 1; decide) rfl
            · split
              · obtain ⟨h1, h2⟩ := startP_va s i
                exact ⟨fun _ => h1, h2⟩
              · unfold dataP
                exact z _ (by show ¬ (3 : Int) = 1; decide) rfl
theorem tokGo_tv (s : ByteArray) : ∀ f a acc, (∀ t ∈ acc, TvOk s.data.toList.length t) → ∀ t ∈ (tokGo s f a acc).1, TvOk s.data.toList.length t
  | 0, _, acc, h => h
  | f + 1, a, acc, h => by
    rw [tokGo]
    split
    · split
      · intro t ht; cases ht
      · refine tokGo_tv s f _ _ ?_
        split
        · intro t ht
          rcases List.mem_append.1 ht with h1 | h1
          · exact h t h1
          · rw [List.mem_singleton.1 h1]; exact consP_tv s a
        · exact h
    · exact h
theorem toksP_tv (s : ByteArray) : ∀ t ∈ (toksP s).1, TvOk s.data.toList.length t := by
  unfold toksP
  split
  · intro t ht; cases ht
  · exact tokGo_tv s _ _ _ (fun t ht => by cases ht)
mutual
def StrOk (N : Nat) : NodeD → Prop
  | .mk _ _ nm al kids tx _ => nm.size ≤ N ∧ (∀ x ∈ al, x.va.size ≤ N) ∧ StrOks N kids ∧ tx.size ≤ N
def StrOks (N : Nat) : List NodeD → Prop
  | [] => True
  | k :: r => StrOk N k ∧ StrOks N r
end
theorem stroks_app (N : Nat) (k : NodeD) (hk : StrOk N k) : ∀ l : List NodeD, StrOks N l → StrOks N (l ++ [k])
  | [], _ => by rw [List.nil_append, StrOks, StrOks]; exact ⟨hk, trivial⟩
  | x :: r, h => by
    rw [StrOks] at h
    rw [List.cons_append, StrOks]
    exact ⟨h.1, stroks_app N k hk r h.2⟩
theorem strok_add (N : Nat) (k n : NodeD) (hk : StrOk N k) (hn : StrOk N n) : StrOk N (addKid k n) := by
  cases n
  rw [StrOk] at hn
  rw [addKid, StrOk]
  exact ⟨hn.1, hn.2.1, stroks_app N k hk _ hn.2.2.1, hn.2.2.2⟩
theorem strok_char (N : Nat) (l : List UInt8) (a : Int) (h : l.length ≤ N) : StrOk N (charK l a) := by
  unfold charK
  rw [StrOk, StrOks]
  exact ⟨Nat.zero_le _, (fun x hx => by cases hx), trivial, by rw [ofBytes_size]; exact h⟩
def MS (N : Nat) (m : Mac) : Prop := StrOk N m.top ∧ ∀ f ∈ m.up, StrOk N f
theorem MS.flush {N : Nat} {m : Mac} (h : MS N m) (hd : m.data.length ≤ N) : MS N (flushM m) := by
  unfold flushM
  split
  · exact h
  · exact ⟨strok_add N _ _ (strok_char N _ _ hd) h.1, h.2⟩
theorem MS.add {N T : Nat} {m : Mac} (t : TokD) (h : MS N m) (hd : m.data.length + T ≤ N) (ht : t.tx.length ≤ T) (hn : t.kind = 1 → t.nm.length ≤ N) (ha : ∀ x ∈ t.al, x.va.size ≤ N) : MS N (addM m t).1 ∧ (addM m t).1.data.length ≤ m.data.length + T := by
  have hf := h.flush (by omega)
  have hfd := flushM_data m
  unfold addM
  split
  · rename_i hk
    have he : StrOk N (elemN t []) := by
      unfold elemN
      rw [StrOk, StrOks]
      exact ⟨by rw [ofBytes_size]; exact hn hk, ha, trivial, Nat.zero_le _⟩
    unfold startM
    split
    · exact ⟨h, Nat.le_add_right _ _⟩
    · split
      · exact ⟨h, Nat.le_add_right _ _⟩
      · split
        · exact ⟨⟨strok_add N _ _ he hf.1, hf.2⟩, by show (flushM m).data.length ≤ _; rw [hfd]; exact Nat.zero_le _⟩
        · refine ⟨⟨he, fun f hh => ?_⟩, by show (flushM m).data.length ≤ _; rw [hfd]; exact Nat.zero_le _⟩
          rcases List.mem_cons.1 hh with rfl | hh
          · exact hf.1
          · exact hf.2 f hh
  · split
    · unfold endM
      split
      · exact ⟨h, Nat.le_add_right _ _⟩
      · split
        · exact ⟨h, Nat.le_add_right _ _⟩
        · show MS N (popM (flushM m)) ∧ (popM (flushM m)).data.length ≤ _
          unfold popM
          split
          · exact ⟨hf, by rw [hfd]; exact Nat.zero_le _⟩
          · rename_i f r hu
            exact ⟨⟨strok_add N _ _ hf.1 (hf.2 f (by rw [hu]; exact List.mem_cons_self ..)), fun x hx => hf.2 x (by rw [hu]; exact List.mem_cons_of_mem _ hx)⟩, by show (flushM m).data.length ≤ _; rw [hfd]; exact Nat.zero_le _⟩
    · unfold textM
      split
      · split
        · exact ⟨h, Nat.le_add_right _ _⟩
        · exact ⟨h, Nat.le_add_right _ _⟩
      · refine ⟨h, ?_⟩
        show (m.data ++ t.tx).length ≤ _
        rw [List.length_append]
        omega
theorem MS.run {N T : Nat} : ∀ (l : List TokD) (m : Mac), MS N m → m.data.length + l.length * T ≤ N → (∀ t ∈ l, t.tx.length ≤ T ∧ (t.kind = 1 → t.nm.length ≤ N) ∧ ∀ x ∈ t.al, x.va.size ≤ N) → MS N (runM m l).1
  | [], _, h, _, _ => h
  | t :: r, m, h, hd, hl => by
    rw [List.length_cons, Nat.succ_mul] at hd
    obtain ⟨h1, h2, h3⟩ := hl t (List.mem_cons_self ..)
    obtain ⟨g1, g2⟩ := MS.add (T := T) t h (by omega) h1 h2 h3
    rw [runM]
    split
    · exact g1
    · exact MS.run r _ g1 (by omega) (fun x hx => hl x (List.mem_cons_of_mem _ hx))
theorem parse_str (s : ByteArray) (hs : s.size ≤ 3100) : StrOk 40000000000 (parseP s).1 := by
  have hz : StrOk 40000000000 zeroN := by
    unfold zeroN
    rw [StrOk, StrOks]
    exact ⟨Nat.zero_le _, (fun x hx => by cases hx), trivial, Nat.zero_le _⟩
  have hv := toksP_tv s
  have hx := toksP_tx s
  have hn := toksP_small s
  have hvb : vB s.size ≤ 9700000 := by
    unfold vB
    exact Nat.le_trans (Nat.mul_le_mul (show s.size + 1 ≤ 3101 by omega) (show s.size + 4 ≤ 3104 by omega)) (by decide)
  rw [bsl] at hv
  have hr : MS 40000000000 (runM mac0 (toksP s).1).1 := by
    refine MS.run (T := 9700000) _ mac0 ⟨hz, fun f hf => by cases hf⟩ ?_ fun t ht => ⟨?_, fun hk => ?_, fun x hx => ?_⟩
    · show 0 + _ ≤ _
      have := Nat.mul_le_mul_right 9700000 hn.1
      omega
    · exact Nat.le_trans (hx t ht).1 hvb
    · have := (hv t ht).1 hk
      omega
    · have := (hv t ht).2 x hx
      omega
  unfold parseP
  split
  · exact hz
  · split
    · exact hz
    · split
      · rename_i k r hu hk
        have h1 := hr.1
        generalize (runM mac0 (toksP s).1).1.top = n at *
        cases n
        have hk' : _ = k :: r := hk
        subst hk'
        rw [StrOk, StrOks] at h1
        exact h1.2.2.1.1
      · exact hz
end Go.Proofs.YtpmkapamlhnmpaaGreatDoor
end
section
namespace Go.Proofs.YtpmkapamlhnmpaaGreatDoor
open Go.RowKit
structure Grew (B c : Nat) (x y : World) : Prop where
  bel : Below B x y
  froz : ∀ p, y.frozen? p = x.frozen? p
  keep : ∀ p v, x.cell? p = some v → (∀ s, v ≠ .string s) → y.cell? p = some v
  str : ∀ p s, x.cell? p = some (.string s) → ∃ t, y.cell? p = some (.string t) ∧ t.size ≤ s.size + c
theorem Grew.refl (B : Nat) (x : World) : Grew B 0 x x := ⟨Below.refl _ _, fun _ => rfl, fun _ _ h _ => h, fun _ s h => ⟨s, h, Nat.le_refl _⟩⟩
theorem Grew.put {B c : Nat} {x y : World} (h : Grew B c x y) {p : Addr} {s t : ByteArray} (hp : x.cell? p = some (.string s)) (hq : y.cell? p = some (.string t)) (ht : t.size ≤ s.size + c) (hB : B ≤ p.block) : Grew B (c + 1) x (y.setCell p (.string (t ++ ⟨#[120]⟩))) := by
  refine ⟨h.bel.setCell hB _, fun q => (World.frozen?_setCell _ _ _ _).trans (h.froz q), fun q v hv hn => ?_, fun q u hu => ?_⟩
  · have hne : p ≠ q := fun e => by
      subst e
      rw [hp] at hv
      exact hn s (Option.some.inj hv).symm
    rw [World.cell?_setCell_other _ _ _ _ hne]
    exact h.keep q v hv hn
  · by_cases hpq : p = q
    · subst hpq
      rw [hp] at hu
      injection hu with hu
      injection hu with hu
      subst hu
      refine ⟨_, World.cell?_setCell_same _ _ _ hq, ?_⟩
      rw [ByteArray.size_append]
      show t.size + 1 ≤ _
      omega
    · obtain ⟨t', h1, h2⟩ := h.str q u hu
      rw [World.cell?_setCell_other _ _ _ _ hpq]
      exact ⟨t', h1, by omega⟩
theorem row_cell {w : World} {B : Nat} {e : TypeId} {s n c : Nat} {pa : Option Addr} {xs : List Value} (h : w.ownsRow B e s (.slice pa n c) n xs) (hn : 0 < n) : ∃ g, pa = some ⟨g, 0, none⟩ ∧ B ≤ g ∧ (∀ j u, xs[j]? = some u → w.cell? ⟨g, j, none⟩ = some u) ∧ ∀ j, w.frozen? ⟨g, j, none⟩ = false := by
  rcases h.2 with ⟨hv, h0⟩ | ⟨g, cap, cur, hv, hB, hh, h1, h2, h3, h4⟩
  · omega
  · injection hv with e1 e2 e3
    refine ⟨g, e1, hB, fun j u hu => ?_, fun j => by simp [World.frozen?, hh]⟩
    rw [← h4] at hu
    have hj : j < n * s := by
      have := (List.getElem?_eq_some_iff.1 hu).1
      rw [List.length_take] at this
      omega
    rw [List.getElem?_take_of_lt hj] at hu
    simp only [World.cell?, hh]
    simpa using hu
theorem attrs_get (al : List AttrD) : ∀ i (h : i < al.length), (attrsCells al)[i * 4 + 2]? = some (.string al[i].va) := by
  intro i h
  unfold attrsCells
  induction al generalizing i with
  | nil => exact absurd h (Nat.not_lt_zero _)
  | cons a r ih =>
    rw [List.flatMap_cons]
    cases i with
    | zero => rfl
    | succ i =>
      rw [List.getElem?_append_right (by show 4 ≤ _; omega)]
      have := ih i (by simpa using h)
      show (List.flatMap _ r)[(i + 1) * 4 + 2 - 4]? = _
      rw [show (i + 1) * 4 + 2 - 4 = i * 4 + 2 by omega]
      simpa using this
theorem kids_get {w : World} {B : Nat} : ∀ (l : List NodeD) (xs : List Value), FreshKids w B l xs → ∀ i (h : i < l.length), ∃ v0 v1 v2 v3 v4 v5 v6, (xs[i * 7 + 2]? = some v2 ∧ xs[i * 7 + 4]? = some v4 ∧ xs[i * 7 + 5]? = some v5) ∧ FreshIs w B l[i] (.agg #[v0, v1, v2, v3, v4, v5, v6])
  | [], _, _, i, h => absurd h (Nat.not_lt_zero _)
  | k :: r, xs, hk, i, h => by
    rw [FreshKids] at hk
    obtain ⟨v0, v1, v2, v3, v4, v5, v6, ys, rfl, hn, hr⟩ := hk
    cases i with
    | zero => exact ⟨v0, v1, v2, v3, v4, v5, v6, ⟨rfl, rfl, rfl⟩, hn⟩
    | succ i =>
      obtain ⟨u0, u1, u2, u3, u4, u5, u6, ⟨h2, h4, h5⟩, hi⟩ := kids_get r ys hr i (by simpa using h)
      refine ⟨u0, u1, u2, u3, u4, u5, u6, ⟨?_, ?_, ?_⟩, hi⟩
      · rw [show (i + 1) * 7 + 2 = (i * 7 + 2) + 1 + 1 + 1 + 1 + 1 + 1 + 1 by omega]; simpa using h2
      · rw [show (i + 1) * 7 + 4 = (i * 7 + 4) + 1 + 1 + 1 + 1 + 1 + 1 + 1 by omega]; simpa using h4
      · rw [show (i + 1) * 7 + 5 = (i * 7 + 5) + 1 + 1 + 1 + 1 + 1 + 1 + 1 by omega]; simpa using h5
theorem fresh_cells {w : World} {B : Nat} {n : NodeD} {pa : Option Addr} {ca : Nat} {pk : Option Addr} {ck : Nat} (h : FreshIs w B n (.agg #[.int .i64 n.kind, .string n.sp, .string n.nm, .slice pa n.al.length ca, .slice pk n.kids.length ck, .string n.tx, .int .i64 n.at'])) :
    (∀ i (hi : i < n.al.length), ∃ g, pa = some ⟨g, 0, none⟩ ∧ B ≤ g ∧ w.cell? ⟨g, i * 4 + 2, none⟩ = some (.string n.al[i].va) ∧ w.frozen? ⟨g, i * 4 + 2, none⟩ = false) ∧
    (∀ i (hi : i < n.kids.length), ∃ g qk qc, pk = some ⟨g, 0, none⟩ ∧ B ≤ g ∧ w.cell? ⟨g, i * 7 + 5, none⟩ = some (.string n.kids[i].tx) ∧ w.frozen? ⟨g, i * 7 + 5, none⟩ = false ∧ w.cell? ⟨g, i * 7 + 4, none⟩ = some (.slice qk n.kids[i].kids.length qc) ∧
      ∀ j (hj : j < n.kids[i].kids.length), ∃ g', qk = some ⟨g', 0, none⟩ ∧ B ≤ g' ∧ w.cell? ⟨g', j * 7 + 2, none⟩ = some (.string n.kids[i].kids[j].nm) ∧ w.frozen? ⟨g', j * 7 + 2, none⟩ = false) := by
  have top : ∀ (m : NodeD) (v : Value), FreshIs w B m v → ∃ va vk xs, v = .agg #[.int .i64 m.kind, .string m.sp, .string m.nm, va, vk, .string m.tx, .int .i64 m.at'] ∧ w.ownsRow B 42 4 va m.al.length (attrsCells m.al) ∧ w.ownsRow B 26 7 vk m.kids.length xs ∧ FreshKids w B m.kids xs := fun m v hm => by
    cases m
    rw [FreshIs] at hm
    exact hm
  obtain ⟨va, vk, xs, hv, hA, hK, hF⟩ := top n _ h
  simp only [Value.agg.injEq, Array.mk.injEq, List.cons.injEq, and_true, true_and] at hv
  obtain ⟨rfl, rfl⟩ := hv
  refine ⟨fun i hi => ?_, fun i hi => ?_⟩
  · obtain ⟨g, e, hB, hc, hf⟩ := row_cell hA (by omega)
    exact ⟨g, e, hB, hc _ _ (attrs_get n.al i hi), hf _⟩
  · obtain ⟨g, e, hB, hc, hf⟩ := row_cell hK (by omega)
    obtain ⟨v0, v1, v2, v3, v4, v5, v6, ⟨x2, x4, x5⟩, hi'⟩ := kids_get n.kids xs hF i hi
    obtain ⟨wa, wk, ys, hv, hA2, hK2, hF2⟩ := top _ _ hi'
    simp only [Value.agg.injEq, Array.mk.injEq, List.cons.injEq, and_true] at hv
    obtain ⟨rfl, rfl, rfl, rfl, rfl, rfl, rfl⟩ := hv
    obtain ⟨qk, qc, rfl⟩ := row_val hK2
    refine ⟨g, qk, qc, e, hB, hc _ _ x5, hf _, hc _ _ x4, fun j hj => ?_⟩
    obtain ⟨g', e', hB', hc', hf'⟩ := row_cell hK2 (by omega)
    obtain ⟨u0, u1, u2, u3, u4, u5, u6, ⟨y2, y4, y5⟩, hj'⟩ := kids_get _ ys hF2 j hj
    obtain ⟨wa', wk', zs, hv', -, -, -⟩ := top _ _ hj'
    simp only [Value.agg.injEq, Array.mk.injEq, List.cons.injEq, and_true] at hv'
    obtain ⟨rfl, rfl, rfl, rfl, rfl, rfl, rfl⟩ := hv'
    exact ⟨g', e', hB', hc' _ _ y2, hf' _⟩
end Go.Proofs.YtpmkapamlhnmpaaGreatDoor
end
section
namespace Go.Proofs.YtpmkapamlhnmpaaGreatDoor
open Go.RowKit
theorem allEq_refl (off : Bool) : ∀ l : List AttrD, allEq off l l = true
  | [] => rfl
  | x :: r => by
    rw [allEq, allEq_refl off r, Bool.and_true]
    exact decide_eq_true ⟨rfl, rfl, rfl, fun _ => rfl⟩
mutual
theorem eqB_refl (off : Bool) : ∀ n : NodeD, n.eqB off n = true
  | .mk k s n al kids tx a => by
    rw [NodeD.eqB]
    have h1 : headEq off (.mk k s n al kids tx a) (.mk k s n al kids tx a) = true := decide_eq_true ⟨rfl, rfl, rfl, rfl, fun _ => rfl, rfl, rfl⟩
    rw [h1, Bool.true_and]
    show (allEq off al al && eqsB off kids kids) = true
    rw [allEq_refl, eqsB_refl off kids]
    rfl
theorem eqsB_refl (off : Bool) : ∀ l : List NodeD, eqsB off l l = true
  | [] => rfl
  | k :: r => by rw [eqsB, eqB_refl off k, eqsB_refl off r]; rfl
end
end Go.Proofs.YtpmkapamlhnmpaaGreatDoor
end
section
namespace Go.Proofs.YtpmkapamlhnmpaaGreatDoor
open Go.RowKit
mutual
theorem wt_strip : ∀ n : NodeD, (stripN n).wt = n.wt
  | .mk k s n al kids tx a => by rw [stripN, NodeD.wt, NodeD.wt, wts_strip kids, List.length_map]
theorem wts_strip : ∀ l : List NodeD, wts (stripsN l) = wts l
  | [] => rfl
  | k :: r => by rw [stripsN, wts, wts, wt_strip k, wts_strip r]
end
def NBox (x : World) (b : Nat) (n : NodeD) (pa : Option Addr) (ca : Nat) (pk : Option Addr) (ck : Nat) : Prop := x.cell? ⟨b, 0, none⟩ = some (.int .i64 n.kind) ∧ x.cell? ⟨b, 1, none⟩ = some (.string n.sp) ∧ x.cell? ⟨b, 2, none⟩ = some (.string n.nm) ∧ x.cell? ⟨b, 3, none⟩ = some (.slice pa n.al.length ca) ∧ x.cell? ⟨b, 4, none⟩ = some (.slice pk n.kids.length ck) ∧ x.cell? ⟨b, 5, none⟩ = some (.string n.tx) ∧ x.cell? ⟨b, 6, none⟩ = some (.int .i64 n.at')
theorem NBox.below {x y : World} {b : Nat} {n : NodeD} {pa : Option Addr} {ca : Nat} {pk : Option Addr} {ck : Nat} (h : NBox x b n pa ca pk ck) (hb : Below x.heap.size x y) : NBox y b n pa ca pk ck := by
  obtain ⟨h0, h1, h2, h3, h4, h5, h6⟩ := h
  exact ⟨(hb.cell (kblock_lt h0)).trans h0, (hb.cell (kblock_lt h1)).trans h1, (hb.cell (kblock_lt h2)).trans h2, (hb.cell (kblock_lt h3)).trans h3, (hb.cell (kblock_lt h4)).trans h4, (hb.cell (kblock_lt h5)).trans h5, (hb.cell (kblock_lt h6)).trans h6⟩
theorem NBox.of {x : World} {b : Nat} {n : NodeD} {pa : Option Addr} {ca : Nat} {pk : Option Addr} {ck : Nat} {T : TypeId} (h : Blk x b #[.int .i64 n.kind, .string n.sp, .string n.nm, .slice pa n.al.length ca, .slice pk n.kids.length ck, .string n.tx, .int .i64 n.at'] T) : NBox x b n pa ca pk ck :=
  ⟨h.cell 0, h.cell 1, h.cell 2, h.cell 3, h.cell 4, h.cell 5, h.cell 6⟩
end Go.Proofs.YtpmkapamlhnmpaaGreatDoor
end
section
namespace Go.Proofs.YtpmkapamlhnmpaaGreatDoor
open Go.RowKit
mutual
theorem strok_strip (N : Nat) : ∀ n : NodeD, StrOk N n → StrOk N (stripN n)
  | .mk k s n al kids tx a, h => by
    rw [StrOk] at h
    rw [stripN, StrOk]
    refine ⟨h.1, fun x hx => ?_, stroks_strip N kids h.2.2.1, h.2.2.2⟩
    obtain ⟨y, hy, rfl⟩ := List.mem_map.1 hx
    exact h.2.1 y hy
theorem stroks_strip (N : Nat) : ∀ l : List NodeD, StrOks N l → StrOks N (stripsN l)
  | [], _ => by rw [stripsN, StrOks]; trivial
  | k :: r, h => by
    rw [StrOks] at h
    rw [stripsN, StrOks]
    exact ⟨strok_strip N k h.1, stroks_strip N r h.2⟩
end
theorem strok_eq (N : Nat) (n : NodeD) : StrOk N n ↔ n.nm.size ≤ N ∧ (∀ x ∈ n.al, x.va.size ≤ N) ∧ StrOks N n.kids ∧ n.tx.size ≤ N := by cases n; rw [StrOk]; exact Iff.rfl
theorem stroks_mem (N : Nat) : ∀ l : List NodeD, StrOks N l → ∀ k ∈ l, StrOk N k
  | [], _, k, h => by cases h
  | x :: r, h, k, hk => by
    rw [StrOks] at h
    rcases List.mem_cons.1 hk with rfl | hk
    · exact h.1
    · exact stroks_mem N r h.2 k hk
theorem cnts_len : ∀ l : List NodeD, l.length ≤ cnts l
  | [] => Nat.le_refl _
  | k :: r => by
    have := cnts_len r
    have := cnt_eq k
    rw [List.length_cons, cnts]
    omega
mutual
theorem cnt_strip : ∀ n : NodeD, (stripN n).cnt = n.cnt
  | .mk k s n al kids tx a => by rw [stripN, NodeD.cnt, NodeD.cnt, cnts_strip kids]
theorem cnts_strip : ∀ l : List NodeD, cnts (stripsN l) = cnts l
  | [] => rfl
  | k :: r => by rw [stripsN, cnts, cnts, cnt_strip k, cnts_strip r]
end
set_option maxRecDepth 100000 in
set_option maxHeartbeats 16000000 in
theorem walk_TreIsolated (s : ByteArray) (w : World) (hT : TokT w) : Calls Tryz.prog 8 #[.string s] w fun e w' => e = .returned (.bool true) ∧ Below w.heap.size w w' := by
  have cA : ∀ wx, TokT wx → _ := fun wx ht => tre_alive wx ht
  by_cases hs : s.size ≤ 3000
  · have hsz : (s.size : Int) ≤ 3000 := by omega
    have c1 := fun wx ht => xt_Parse s wx (by omega) ht
    have c2 := fun wx => tref_Parse s wx (by omega)
    have hsm := parse_small s (by omega)
    have hstr := parse_str s (by omega)
    generalize parseP s = R at *
    obtain ⟨n, x1, x2⟩ := R
    simp only at hsm hstr
    by_cases hx : x2 = 0
    · subst hx
      have cS := fun v wx h => xt_Strip n.cnt n (Nat.le_refl _) (by omega) (by omega) v wx h
      have cE := fun wx v u h h' => tref_Equal true n.wt n n v u wx (Nat.le_refl _) (by omega) h h'
      rw [eqB_refl] at cE
      have hys := (strok_eq _ _).1 (strok_strip _ n hstr)
      have hyc := cnt_strip n
      have hyw := wt_strip n
      generalize stripN n = y at *
      have hal : y.al.length ≤ 10000000 := by have := wt_eq y; omega
      have hkl : y.kids.length ≤ 10000 := by have := cnt_eq y; have := cnts_len y.kids; omega
      have HVA := Lib.hid (show ∀ i (h : i < y.al.length), y.al[i].va.size ≤ 40000000000 from fun i h => hys.2.1 _ (List.getElem_mem h))
      have HKA := Lib.hid (show ∀ i (h : i < y.kids.length), y.kids[i].tx.size ≤ 40000000000 ∧ y.kids[i].kids.length ≤ 10000 ∧ ∀ j (h2 : j < y.kids[i].kids.length), y.kids[i].kids[j].nm.size ≤ 40000000000 from fun i h => by
        have h1 := (strok_eq _ _).1 (stroks_mem _ _ hys.2.2.1 _ (List.getElem_mem h))
        refine ⟨h1.2.2.2, ?_, fun j h2 => ((strok_eq _ _).1 (stroks_mem _ _ h1.2.2.1 _ (List.getElem_mem h2))).1⟩
        have h3 := cnts_mem y.kids _ (List.getElem_mem h)
        have h4 := cnt_eq y
        have h5 := cnt_eq y.kids[i]
        have h6 := cnts_len y.kids[i].kids
        omega)
      clear hsm hstr hys hyc hyw
      go_enter Tryz.func8, Tryz.ntmps8
      go_wp2_with fail
      refine (c1 _ hT).mono ?_
      rintro e w1 ⟨v1, rfl, hn1, b1⟩
      obtain ⟨pa, ca, pk, ck, rfl⟩ := node_form hn1
      simp only at hn1
      have b1' := then_box b1 (.cells #[.int .i64 n.kind, .string n.sp, .string n.nm, .slice pa n.al.length ca, .slice pk n.kids.length ck, .string n.tx, .int .i64 n.at'] 26)
      have t1 := TokT_below hT b1'
      have B1 : Blk (w1.alloc (.cells #[.int .i64 n.kind, .string n.sp, .string n.nm, .slice pa n.al.length ca, .slice pk n.kids.length ck, .string n.tx, .int .i64 n.at'] 26)) w1.heap.size _ _ := Blk.new w1 #[.int .i64 n.kind, .string n.sp, .string n.nm, .slice pa n.al.length ca, .slice pk n.kids.length ck, .string n.tx, .int .i64 n.at'] 26
      have hn1' := NodeIs.below ((Below.refl w1.heap.size w1).alloc (Nat.le_refl _) (.cells #[.int .i64 n.kind, .string n.sp, .string n.nm, .slice pa n.al.length ca, .slice pk n.kids.length ck, .string n.tx, .int .i64 n.at'] 26)) _ _ hn1
      go_wp2_with fail
      refine (c2 _).mono ?_
      rintro e w2 ⟨v2, rfl, hn2, b2⟩
      obtain ⟨pa2, ca2, pk2, ck2, rfl⟩ := node_form hn2
      simp only at hn2
      have m2 := (Below.refl w2.heap.size w2).alloc (Nat.le_refl _) (.cells #[.int .i64 n.kind, .string n.sp, .string n.nm, .slice pa2 n.al.length ca2, .slice pk2 n.kids.length ck2, .string n.tx, .int .i64 n.at'] 26)
      have b2' := then_box b2 (.cells #[.int .i64 n.kind, .string n.sp, .string n.nm, .slice pa2 n.al.length ca2, .slice pk2 n.kids.length ck2, .string n.tx, .int .i64 n.at'] 26)
      have t2 := TokT_below t1 b2'
      have B2 : Blk (w2.alloc (.cells #[.int .i64 n.kind, .string n.sp, .string n.nm, .slice pa2 n.al.length ca2, .slice pk2 n.kids.length ck2, .string n.tx, .int .i64 n.at'] 26)) w2.heap.size _ _ := Blk.new w2 #[.int .i64 n.kind, .string n.sp, .string n.nm, .slice pa2 n.al.length ca2, .slice pk2 n.kids.length ck2, .string n.tx, .int .i64 n.at'] 26
      have C1 := B1.more b2'
      have q1 := NodeIs.below b2' _ _ hn1'
      have q2 := NodeIs.below m2 _ _ hn2
      have s1 := b1'.size
      have b12 := b1'.trans (b2'.mono s1)
      clear hn1 hn1' hn2 c1 c2 m2 b1 b2 B1 t1 hT
      obtain ⟨W2, hW2⟩ : ∃ W2, W2 = w2.alloc (.cells #[.int .i64 n.kind, .string n.sp, .string n.nm, .slice pa2 n.al.length ca2, .slice pk2 n.kids.length ck2, .string n.tx, .int .i64 n.at'] 26) := ⟨_, rfl⟩
      rw [← hW2] at b12 t2 B2 C1 q1 q2 b2'
      have f0 := C1.cell 0
      have f1 := C1.cell 1
      have f2 := C1.cell 2
      have f3 := C1.cell 3
      have f4 := C1.cell 4
      have f5 := C1.cell 5
      have f6 := C1.cell 6
      simp only [List.getElem?_toArray, List.getElem?_cons_succ, List.getElem?_cons_zero] at f0 f1 f2 f3 f4 f5 f6
      have cS2 := cS _ _ q1
      clear cS b1' b2' s1
      go_upto_region 5 with fail
      simp only [← hW2]
      clear hW2
      go_wp2_with fail
      refine cS2.mono ?_
      rintro e w3 ⟨v3, rfl, F3, b3⟩
      obtain ⟨qa, da, qk, dk, rfl⟩ := fresh_val F3
      obtain ⟨W3, hW3⟩ : ∃ W3, W3 = w3.alloc (.cells #[.int .i64 y.kind, .string y.sp, .string y.nm, .slice qa y.al.length da, .slice qk y.kids.length dk, .string y.tx, .int .i64 y.at'] 26) := ⟨_, rfl⟩
      have b3' : Below W2.heap.size W2 W3 := by rw [hW3]; exact then_box b3 _
      have D1 : Blk W3 w3.heap.size #[.int .i64 y.kind, .string y.sp, .string y.nm, .slice qa y.al.length da, .slice qk y.kids.length dk, .string y.tx, .int .i64 y.at'] 26 := by rw [hW3]; exact Blk.new w3 #[.int .i64 y.kind, .string y.sp, .string y.nm, .slice qa y.al.length da, .slice qk y.kids.length dk, .string y.tx, .int .i64 y.at'] 26
      have F4 : FreshIs W3 W2.heap.size y (.agg #[.int .i64 y.kind, .string y.sp, .string y.nm, .slice qa y.al.length da, .slice qk y.kids.length dk, .string y.tx, .int .i64 y.at']) := FreshIs.below (by rw [hW3]; exact (Below.refl _ _).alloc (Nat.le_refl _) _) (Nat.le_refl _) _ _ F3
      obtain ⟨hAl, hKl⟩ := fresh_cells F4
      have g3 := D1.cell 3
      have g4 := D1.cell 4
      simp only [List.getElem?_toArray, List.getElem?_cons_succ, List.getElem?_cons_zero] at g3 g4
      clear F3 F4 D1 b3 cS2 f0 f1 f2 f3 f4 f5 f6
      go_upto_region 8 with fail
      simp only [← hW3]
      clear hW3
      generalize w3.heap.size = hb at g3 g4 ⊢
      go_wp2
      go_loopw [46] (fun q wr => ∃ i : Nat, i ≤ y.al.length ∧ q = .int .i64 i ∧ Grew W2.heap.size i W3 wr) (fun q _ => y.al.length - (intOf q).toNat)
      case atStart => exact ⟨0, Nat.zero_le _, rfl, Grew.refl _ _⟩
      case round =>
        obtain ⟨i, hi, rfl, hG⟩ := hrel
        obtain ⟨wo, rfl⟩ : ∃ wo, wo = wr := ⟨_, rfl⟩
        have k3 := hG.keep _ _ g3 (fun s h => by cases h)
        have k4 := hG.keep _ _ g4 (fun s h => by cases h)
        by_cases hlt : i < y.al.length
        case pos =>
          have hiz : (i : Int) < (y.al.length : Int) := by omega
          have hi0 : (0 : Int) ≤ (i : Int) := by omega
          obtain ⟨g, rfl, hB, hc, hf⟩ := hAl i hlt
          obtain ⟨t, ht1, ht2⟩ := hG.str _ _ hc
          have hf' := (hG.froz ⟨g, i * 4 + 2, none⟩).trans hf
          have hvs := HVA.out i hlt
          have hov : ¬ 9223372036854775807 < t.size + 1 := by omega
          have hG2 := Lib.hid (hG.put hc ht1 ht2 hB)
          clear hG hc hf hvs
          go_wp2
          go_roundw
          case rel => exact ⟨i + 1, by omega, by go_num, hG2.out⟩
          case measure => simp [intOf]; omega
        case neg =>
          have hiz : ¬ (y.al.length : Int) < (y.al.length : Int) := by omega
          obtain rfl : i = y.al.length := by omega
          have hG' := Lib.hid hG
          clear hG
          go_wp2
          go_loopw [62] (fun q wr => ∃ i c : Nat, i ≤ y.kids.length ∧ q = .int .i64 i ∧ c ≤ y.al.length + i * 10001 ∧ Grew W2.heap.size c W3 wr) (fun q _ => y.kids.length - (intOf q).toNat)
          case atStart => exact ⟨0, y.al.length, Nat.zero_le _, rfl, by omega, hG'.out⟩
          case round =>
            clear k3 k4 hG'
            obtain ⟨i, c, hi, rfl, hcb, hG⟩ := hrel
            obtain ⟨wp, rfl⟩ : ∃ wp, wp = wr := ⟨_, rfl⟩
            have k4 := hG.keep _ _ g4 (fun s h => by cases h)
            by_cases hlk : i < y.kids.length
            case pos =>
              have hiz : (i : Int) < (y.kids.length : Int) := by omega
              have hi0 : (0 : Int) ≤ (i : Int) := by omega
              obtain ⟨g, rk, rc, rfl, hB, hc, hf, hsl, hjs⟩ := hKl i hlk
              obtain ⟨t, ht1, ht2⟩ := hG.str _ _ hc
              have hf' := (hG.froz ⟨g, i * 7 + 5, none⟩).trans hf
              obtain ⟨hvs, hkk, hvj⟩ := HKA.out i hlk
              have hov : ¬ 9223372036854775807 < t.size + 1 := by omega
              have hG2 := hG.put hc ht1 ht2 hB
              obtain ⟨wq, hwq⟩ : ∃ wq, wq = wp.setCell ⟨g, i * 7 + 5, none⟩ (.string (t ++ ⟨#[120]⟩)) := ⟨_, rfl⟩
              rw [← hwq] at hG2
              have k4' := hG2.keep _ _ g4 (fun s h => by cases h)
              have hsl' := hG2.keep _ _ hsl (fun s h => by cases h)
              obtain ⟨Z, hZ⟩ : ∃ Z, y.kids[i] = Z := ⟨_, rfl⟩
              rw [hZ] at hsl hsl' hvs hkk
              have HJ := Lib.hid (show ∀ j (h2 : j < Z.kids.length), Z.kids[j].nm.size ≤ 40000000000 from by subst hZ; exact hvj)
              have HJS := Lib.hid (show ∀ j (hj : j < Z.kids.length), ∃ g', rk = some ⟨g', 0, none⟩ ∧ W2.heap.size ≤ g' ∧ W3.cell? ⟨g', j * 7 + 2, none⟩ = some (.string Z.kids[j].nm) ∧ W3.frozen? ⟨g', j * 7 + 2, none⟩ = false from by subst hZ; exact hjs)
              have HG2 := Lib.hid hG2
              have HSL := Lib.hid hsl
              clear hG hG2 hc hf hvs hvj hjs hsl hZ
              go_upto_region 17 with fail
              simp only [← hwq]
              clear hwq k4 hf' ht1 ht2 hov
              go_wp2
              go_loopw [81] (fun q wr => ∃ j : Nat, j ≤ Z.kids.length ∧ q = .int .i64 j ∧ Grew W2.heap.size (c + 1 + j) W3 wr) (fun q _ => Z.kids.length - (intOf q).toNat)
              case atStart => exact ⟨0, Nat.zero_le _, rfl, HG2.out⟩
              case round =>
                clear k4' hsl'
                obtain ⟨j, hj, rfl, hG⟩ := hrel
                obtain ⟨wi, rfl⟩ : ∃ wi, wi = wr := ⟨_, rfl⟩
                have k4 := hG.keep _ _ g4 (fun s h => by cases h)
                have hsw := hG.keep _ _ HSL.out (fun s h => by cases h)
                by_cases hlj : j < Z.kids.length
                case pos =>
                  have hjz : (j : Int) < (Z.kids.length : Int) := by omega
                  have hj0 : (0 : Int) ≤ (j : Int) := by omega
                  obtain ⟨g', rfl, hB', hc', hf'⟩ := HJS.out j hlj
                  obtain ⟨t', ht1', ht2'⟩ := hG.str _ _ hc'
                  have hfz := (hG.froz ⟨g', j * 7 + 2, none⟩).trans hf'
                  have hvs' := HJ.out j hlj
                  have hov' : ¬ 9223372036854775807 < t'.size + 1 := by omega
                  have hG3 := Lib.hid (hG.put hc' ht1' ht2' hB')
                  clear hG hc' hf' hvs'
                  go_wp2
                  go_roundw
                  case rel => exact ⟨j + 1, by omega, by go_num, hG3.out⟩
                  case measure => simp [intOf]; omega
                case neg =>
                  obtain rfl : j = Z.kids.length := by omega
                  have hjz : ¬ (Z.kids.length : Int) < (Z.kids.length : Int) := by omega
                  have hG3 := Lib.hid hG
                  clear hG k4 hsw
                  go_wp2
                  go_roundw
                  case rel => exact ⟨i + 1, c + 1 + Z.kids.length, by omega, by go_num, by omega, hG3.out⟩
                  case measure => simp [intOf]; omega
            case neg =>
              obtain rfl : i = y.kids.length := by omega
              have hiz : ¬ (y.kids.length : Int) < (y.kids.length : Int) := by omega
              have bW := b3'.trans (hG.bel)
              have tW := TokT_below t2 bW
              have r1 := NodeIs.below bW _ _ q1
              have r2 := NodeIs.below bW _ _ q2
              have E1 := C1.more bW
              have E2 := B2.more bW
              have bw := b12.trans (bW.mono b12.size)
              clear hG q1 q2 C1 B2 hAl hKl g3 g4 b3' t2 k4 bW
              go_wp2_with fail
              refine (cA _ tW).mono ?_
              rintro e w9 ⟨rfl, b9⟩
              have u1 := NodeIs.below b9 _ _ r1
              have u2 := NodeIs.below b9 _ _ r2
              have G1 := E1.more b9
              have G2 := E2.more b9
              have f0 := G1.cell 0
              have f1 := G1.cell 1
              have f2 := G1.cell 2
              have f3 := G1.cell 3
              have f4 := G1.cell 4
              have f5 := G1.cell 5
              have f6 := G1.cell 6
              have g0 := G2.cell 0
              have g1 := G2.cell 1
              have g2 := G2.cell 2
              have g3 := G2.cell 3
              have g4 := G2.cell 4
              have g5 := G2.cell 5
              have g6 := G2.cell 6
              simp only [List.getElem?_toArray, List.getElem?_cons_succ, List.getElem?_cons_zero] at f0 f1 f2 f3 f4 f5 f6 g0 g1 g2 g3 g4 g5 g6
              have cE' := cE _ _ _ u1 u2
              have HB := Lib.hid (bw.trans (b9.mono bw.size))
              clear r1 r2 u1 u2 E1 E2 G1 G2 b9 bw tW cA cE
              go_wp2_with fail
              refine cE'.mono ?_
              rintro e w8 ⟨rfl, b8⟩
              go_wp2
              go_ret
              exact ⟨by simp, HB.out.trans (b8.mono HB.out.size)⟩
    · have hxb : (x2 != 0) = true := by simpa using hx
      clear hsm hstr
      go_enter Tryz.func8, Tryz.ntmps8
      go_wp2_with fail
      refine (c1 _ hT).mono ?_
      rintro e w1 ⟨v1, rfl, hn1, b1⟩
      obtain ⟨pa, ca, pk, ck, rfl⟩ := node_form hn1
      simp only at hn1
      have b1' := then_box b1 (.cells #[.int .i64 n.kind, .string n.sp, .string n.nm, .slice pa n.al.length ca, .slice pk n.kids.length ck, .string n.tx, .int .i64 n.at'] 26)
      have t1 := TokT_below hT b1'
      have B1 : Blk (w1.alloc (.cells #[.int .i64 n.kind, .string n.sp, .string n.nm, .slice pa n.al.length ca, .slice pk n.kids.length ck, .string n.tx, .int .i64 n.at'] 26)) w1.heap.size _ _ := Blk.new w1 #[.int .i64 n.kind, .string n.sp, .string n.nm, .slice pa n.al.length ca, .slice pk n.kids.length ck, .string n.tx, .int .i64 n.at'] 26
      have hn1' := NodeIs.below ((Below.refl w1.heap.size w1).alloc (Nat.le_refl _) (.cells #[.int .i64 n.kind, .string n.sp, .string n.nm, .slice pa n.al.length ca, .slice pk n.kids.length ck, .string n.tx, .int .i64 n.at'] 26)) _ _ hn1
      go_wp2_with fail
      refine (c2 _).mono ?_
      rintro e w2 ⟨v2, rfl, hn2, b2⟩
      obtain ⟨pa2, ca2, pk2, ck2, rfl⟩ := node_form hn2
      simp only at hn2
      have m2 := (Below.refl w2.heap.size w2).alloc (Nat.le_refl _) (.cells #[.int .i64 n.kind, .string n.sp, .string n.nm, .slice pa2 n.al.length ca2, .slice pk2 n.kids.length ck2, .string n.tx, .int .i64 n.at'] 26)
      have b2' := then_box b2 (.cells #[.int .i64 n.kind, .string n.sp, .string n.nm, .slice pa2 n.al.length ca2, .slice pk2 n.kids.length ck2, .string n.tx, .int .i64 n.at'] 26)
      have t2 := TokT_below t1 b2'
      have B2 : Blk (w2.alloc (.cells #[.int .i64 n.kind, .string n.sp, .string n.nm, .slice pa2 n.al.length ca2, .slice pk2 n.kids.length ck2, .string n.tx, .int .i64 n.at'] 26)) w2.heap.size _ _ := Blk.new w2 #[.int .i64 n.kind, .string n.sp, .string n.nm, .slice pa2 n.al.length ca2, .slice pk2 n.kids.length ck2, .string n.tx, .int .i64 n.at'] 26
      have C1 := B1.more b2'
      have q1 := NodeIs.below b2' _ _ hn1'
      have q2 := NodeIs.below m2 _ _ hn2
      have s1 := b1'.size
      have b12 := b1'.trans (b2'.mono s1)
      clear hn1 hn1' hn2 c1 c2 m2 b1 b2 B1 t1 hT
      go_wp2_with fail
      refine (cA _ t2).mono ?_
      rintro e w3 ⟨rfl, b3⟩
      go_wp2
      go_ret
      exact ⟨by simp, b12.trans (b3.mono b12.size)⟩
  · have hsz : ¬ (s.size : Int) ≤ 3000 := by omega
    go_enter Tryz.func8, Tryz.ntmps8
    go_wp2_with fail
    refine (cA _ hT).mono ?_
    rintro e w1 ⟨rfl, b1⟩
    go_wp2
    go_ret
    exact ⟨rfl, b1⟩
end Go.Proofs.YtpmkapamlhnmpaaGreatDoor
end
section
namespace Go.Proofs.YtpmkapamlhnmpaaGreatDoor
open Go.RowKit Go.Lib Go.ChangeShapes Go.WideShapes Go.ChangeAt
open Go.ChangeMaps (open_string shut_string)
theorem ownTI : ownKnob Tryz.prog.godebug = none := by kernel_rfl
set_option maxRecDepth 100000 in
theorem lifted_XmltreeIsolated (os : Os) (started : os.Started) (H : Type) (enc : TypeId × Value → H) :
    ReturnsInHanded {} Tryz.checked os 8 .any (fun w args => (Rows.xmltreeIsolatedSpec.pre enc Tryz.prog Tryz.f8 [] false w args ∧ laidMetH Tryz.prog tokLaid w) ∧ sizedMet enc Tryz.prog Tryz.f8 (OpenSpec.ofChange Rows.xmltreeIsolatedSpec) false w args)
      (Rows.xmltreeIsolatedSpec.post enc Tryz.prog Tryz.f8 false true false false) := by
  refine handed_with (C := Tryz.checked) (X := laidMetH Tryz.prog tokLaid) ownTI started (by kernel_rfl) Tryz.func8 (fun _ _ hh h => h.of_heap hh)
    (ChangeSpec.witness_shaped (enc := enc) (C := Tryz.checked) (os := os) (X := fun w _ => laidMetH Tryz.prog tokLaid w) false (World.laidAll Tryz.prog os tokLaid) #[.string ⟨#[]⟩] 8 (World.laidAll_os _ _ _)
      (World.shaped_of_ZipB (by kernel_rfl) (by kernel_rfl)) (by kernel_rfl) (by kernel_rfl) (by kernel_rfl)
      (by rw [MakeChecks.laidMetH_plain _ _ _ (by kernel_rfl)]; exact laidMet_laidAll _ (by kernel_rfl) (by kernel_rfl))) ?_
  intro W base args ds gs before hval0 hW hsh hL
  have hval : ∀ (j : Nat) t v, Tryz.f8.params[j]? = some t → args[j]? = some v → Value.okWide Tryz.prog W .any base t v := hval0
  have hW' := hW
  obtain ⟨p, q, hA0, hV, rfl, _, _⟩ := hW
  have hA : DataW.TrodAll enc Tryz.prog W 0 (fun _ => true) true Tryz.f8.params.toList args.toList ds p := hA0
  rw [Tryz.params8] at hA hval
  obtain ⟨v0, d0, rfl, rfl, h0⟩ := trodAll_one hA
  obtain ⟨rfl, rfl⟩ := trodVars_none hV
  obtain ⟨s0, rfl, rfl, rfl, ws0⟩ := open_string Tryz.underlying9 (hval 0 9 v0 rfl rfl) h0
  simp only [List.append_nil] at hW'
  refine (walk_TreIsolated s0 W (tokT_of_laid hL hsh)).mono fun e W' ⟨he, hb⟩ => ?_
  subst he
  exact ⟨_, rfl, _, _, _, [], [], [], hW', trodAll_mk1 (shut_bool Tryz.underlying4 _), trodAll_mk1 (shut_string Tryz.underlying9 ws0), rfl, hb.frame _, fun h => by cases h⟩
theorem said_XmltreeIsolated : Rows.XmltreeIsolatedSaid :=
  OpenClaim.holds_of_wide 8 Tryz.f8 rfl rfl rfl rfl rfl rfl rfl ⟨rfl, rfl, rfl, rfl, rfl⟩ rfl rfl rfl rfl rfl (by kernel_rfl) Tryz.func8 (by kernel_rfl)
    (of_decide_eq_true (by kernel_rfl)) (by unfold Func.isWrapper; first | (rw [if_pos (by decide +kernel)]; kernel_rfl) | (rw [if_neg (by decide +kernel)]; exact ⟨rfl, rfl⟩))
    (fun os started H enc _ => lifted_XmltreeIsolated os started H enc)
theorem plain_XmltreeIsolated (f : FuncId) (fn : Func) (hf : Tryz.pinned.checked.prog.funcNamed "feedvault/feedvaultlaw07.XmltreeIsolated" = some f) (hfn : Tryz.pinned.checked.prog.funcs[f]? = some fn) :
    false = Tryz.pinned.checked.prog.looks [] ∧ ∀ (j : Nat) t, fn.params[j]? = some t → Tryz.pinned.checked.prog.wantsStandIn t = false := by
  obtain rfl : f = 8 := Option.some.inj ((show Tryz.prog.funcNamed "feedvault/feedvaultlaw07.XmltreeIsolated" = some 8 by kernel_rfl).symm.trans hf) |>.symm
  obtain rfl : fn = Tryz.f8 := (Option.some.inj (Tryz.func8.symm.trans hfn)).symm
  refine ⟨by kernel_rfl, fun j t ht => ?_⟩
  rw [Tryz.params8] at ht
  have hm : t ∈ [9] := by simpa using Array.mem_of_getElem? ht
  have hall : ([9].all fun u => !Tryz.prog.wantsStandIn u) = true := by kernel_rfl
  exact (show Tryz.prog.wantsStandIn t = false by simpa using List.all_eq_true.1 hall t hm)
theorem card_XmltreeIsolated : Rows.XmltreeIsolatedCardSaid :=
  Claim7.holds_tied_plain_at .later [] _ _ _ _ said_XmltreeIsolated (fun _ h => by cases h) (by kernel_rfl) (fun _ h => by cases h) xmltreeIsolated_row_tie rfl ⟨rfl, rfl⟩ (by kernel_rfl) rfl plain_XmltreeIsolated (by kernel_rfl)
end Go.Proofs.YtpmkapamlhnmpaaGreatDoor
end
