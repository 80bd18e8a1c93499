/- Packed from the texts NsN. -/
import Derived.Test.YtoehcholbcchcaaDoorUNsA
import Derived.Test.YtoehcholbcchcaaDoorUkC
import Derived.Test.YtoehcholbcchcaaDoorUkF
section
namespace Go.Proofs.YtoehcholbcchcaaDoor
open Go.RowKit
theorem startGo_nm (s : ByteArray) (i : Nat) (N : List UInt8) : ∀ f a acc, (∀ x ∈ acc, x.nm.size ≤ s.data.toList.length) → ∀ x ∈ (startGo s i N f a acc).al, x.nm.size ≤ s.data.toList.length
  | 0, _, acc, h => h
  | f + 1, a, acc, h => by
    rw [startGo]
    split
    · exact h
    · split
      · exact h
      · split
        · exact h
        · split
          · exact h
          · split
            · exact h
            · split
              · exact h
              · refine startGo_nm s i N f _ _ fun x hx => ?_
                rcases List.mem_append.1 hx with hx | hx
                · exact h x hx
                · rw [List.mem_singleton.1 hx]
                  show (ofBytes _).size ≤ _
                  rw [ofBytes_size]
                  exact attrP_nm s i _
theorem startP_nm (s : ByteArray) (i : Nat) : ∀ x ∈ (startP s i).al, x.nm.size ≤ s.data.toList.length := by
  unfold startP
  split
  · exact fun x hx => by cases hx
  · exact startGo_nm s i ((s.data.toList.drop (i + 1)).take (nmP s (i + 1) - (i + 1))) (s.size + 1) (nmP s (i + 1)) [] (fun x hx => by cases hx)
def TnOk (n : Nat) (t : TokD) : Prop := ∀ x ∈ t.al, x.nm.size ≤ n
theorem consP_tn (s : ByteArray) (i : Nat) : TnOk s.data.toList.length (consP s i).1 := by
  have z : ∀ t : TokD, t.al = [] → TnOk s.data.toList.length t := fun t h2 x hx => by rw [h2] at hx; cases hx
  unfold consP
  split
  · exact z _ rfl
  · split
    · exact z _ rfl
    · split
      · unfold cdataP
        split
        · exact z _ rfl
        · exact z _ rfl
      · split
        · exact z _ rfl
        · split
          · exact z _ rfl
          · split
            · exact z _ rfl
            · split
              · exact startP_nm s i
              · unfold dataP
                exact z _ rfl
theorem tokGo_tn (s : ByteArray) : ∀ f a acc, (∀ t ∈ acc, TnOk s.data.toList.length t) → ∀ t ∈ (tokGo s f a acc).1, TnOk s.data.toList.length t
  | 0, _, acc, h => h
  | f + 1, a, acc, h => by
    rw [tokGo]
    split
    · split
      · intro t ht; cases ht
      · refine tokGo_tn s f _ _ ?_
        split
        · intro t ht
          rcases List.mem_append.1 ht with h1 | h1
          · exact h t h1
          · rw [List.mem_singleton.1 h1]; exact consP_tn s a
        · exact h
    · exact h
theorem toksP_tn (s : ByteArray) : ∀ t ∈ (toksP s).1, TnOk s.data.toList.length t := by
  unfold toksP
  split
  · intro t ht; cases ht
  · exact tokGo_tn s _ _ _ (fun t ht => by cases ht)
mutual
def NmOk (N : Nat) : NodeD → Prop
  | .mk k _ nm al kids tx _ => nm.size ≤ N ∧ (∀ x ∈ al, x.nm.size ≤ N) ∧ NmOks N kids ∧ (k = 0 → tx = noB)
def NmOks (N : Nat) : List NodeD → Prop
  | [] => True
  | k :: r => NmOk N k ∧ NmOks N r
end
theorem nmok_eq (N : Nat) (n : NodeD) : NmOk N n ↔ n.nm.size ≤ N ∧ (∀ x ∈ n.al, x.nm.size ≤ N) ∧ NmOks N n.kids ∧ (n.kind = 0 → n.tx = noB) := by cases n; rw [NmOk]; exact Iff.rfl
theorem nmoks_mem (N : Nat) : ∀ (l : List NodeD), NmOks N l → ∀ k ∈ l, NmOk N k
  | [], _, k, h => by cases h
  | x :: r, h, k, hk => by
    rw [NmOks] at h
    rcases List.mem_cons.1 hk with rfl | hk
    · exact h.1
    · exact nmoks_mem N r h.2 k hk
theorem strok_eq (N : Nat) (n : NodeD) : StrOk N n ↔ n.nm.size ≤ N ∧ (∀ x ∈ n.al, x.va.size ≤ N) ∧ StrOks N n.kids ∧ n.tx.size ≤ N := by cases n; rw [StrOk]; exact Iff.rfl
theorem stroks_mem (N : Nat) : ∀ (l : List NodeD), StrOks N l → ∀ k ∈ l, StrOk N k
  | [], _, k, h => by cases h
  | x :: r, h, k, hk => by
    rw [StrOks] at h
    rcases List.mem_cons.1 hk with rfl | hk
    · exact h.1
    · exact stroks_mem N r h.2 k hk
theorem nmoks_app (N : Nat) (k : NodeD) (hk : NmOk N k) : ∀ l : List NodeD, NmOks N l → NmOks N (l ++ [k])
  | [], _ => by rw [List.nil_append, NmOks, NmOks]; exact ⟨hk, trivial⟩
  | x :: r, h => by
    rw [NmOks] at h
    rw [List.cons_append, NmOks]
    exact ⟨h.1, nmoks_app N k hk r h.2⟩
theorem nmok_add (N : Nat) (k n : NodeD) (hk : NmOk N k) (hn : NmOk N n) : NmOk N (addKid k n) := by
  cases n
  rw [NmOk] at hn
  rw [addKid, NmOk]
  exact ⟨hn.1, hn.2.1, nmoks_app N k hk _ hn.2.2.1, hn.2.2.2⟩
theorem nmok_char (N : Nat) (l : List UInt8) (a : Int) : NmOk N (charK l a) := by
  unfold charK
  rw [NmOk, NmOks]
  exact ⟨Nat.zero_le _, (fun x hx => by cases hx), trivial, fun h => by cases h⟩
def MN (N : Nat) (m : Mac) : Prop := NmOk N m.top ∧ ∀ f ∈ m.up, NmOk N f
theorem MN.flush {N : Nat} {m : Mac} (h : MN N m) : MN N (flushM m) := by
  unfold flushM
  split
  · exact h
  · exact ⟨nmok_add N _ _ (nmok_char N _ _) h.1, h.2⟩
theorem MN.add {N : Nat} {m : Mac} (t : TokD) (h : MN N m) (hn : t.kind = 1 → t.nm.length ≤ N) (ha : ∀ x ∈ t.al, x.nm.size ≤ N) : MN N (addM m t).1 := by
  have hf := h.flush
  unfold addM
  split
  · rename_i hk
    have he : NmOk N (elemN t []) := by
      unfold elemN
      rw [NmOk, NmOks]
      exact ⟨by rw [ofBytes_size]; exact hn hk, ha, trivial, fun _ => rfl⟩
    unfold startM
    split
    · exact h
    · split
      · exact h
      · split
        · exact ⟨nmok_add N _ _ he hf.1, hf.2⟩
        · refine ⟨he, fun f hh => ?_⟩
          rcases List.mem_cons.1 hh with rfl | hh
          · exact hf.1
          · exact hf.2 f hh
  · split
    · unfold endM
      split
      · exact h
      · split
        · exact h
        · show MN N (popM (flushM m))
          unfold popM
          split
          · exact hf
          · rename_i f r hu
            exact ⟨nmok_add N _ _ hf.1 (hf.2 f (by rw [hu]; exact List.mem_cons_self ..)), fun x hx => hf.2 x (by rw [hu]; exact List.mem_cons_of_mem _ hx)⟩
    · unfold textM
      split
      · split
        · exact h
        · exact h
      · exact h
theorem MN.run {N : Nat} : ∀ (l : List TokD) (m : Mac), MN N m → (∀ t ∈ l, (t.kind = 1 → t.nm.length ≤ N) ∧ ∀ x ∈ t.al, x.nm.size ≤ N) → MN N (runM m l).1
  | [], _, h, _ => h
  | t :: r, m, h, hl => by
    obtain ⟨h2, h3⟩ := hl t (List.mem_cons_self ..)
    have g1 := MN.add t h h2 h3
    rw [runM]
    split
    · exact g1
    · exact MN.run r _ g1 (fun x hx => hl x (List.mem_cons_of_mem _ hx))
theorem parse_nm (s : ByteArray) (hs : s.size ≤ 100000) : NmOk 100000 (parseP s).1 := by
  have hz : NmOk 100000 zeroN := by
    unfold zeroN
    rw [NmOk, NmOks]
    exact ⟨Nat.zero_le _, (fun x hx => by cases hx), trivial, fun _ => rfl⟩
  have hv := toksP_tv s
  have hn := toksP_tn s
  have hr : MN 100000 (runM mac0 (toksP s).1).1 := by
    refine MN.run _ mac0 ⟨hz, fun f hf => by cases hf⟩ fun t ht => ⟨fun hk => ?_, fun x hx => ?_⟩
    · have := (hv t ht).1 hk
      simp at this
      omega
    · have := hn t ht x hx
      simp at this
      omega
  unfold parseP
  split
  · exact hz
  · split
    · exact hz
    · split
      · rename_i k r hu hk
        have h1 := hr.1
        generalize (runM mac0 (toksP s).1).1.top = n at *
        cases n
        have hk' : _ = k :: r := hk
        subst hk'
        rw [NmOk, NmOks] at h1
        exact h1.2.2.1.1
      · exact hz
end Go.Proofs.YtoehcholbcchcaaDoor
end
