/- Packed from the texts JzS JzT JzU JzV. -/
import Derived.Test.YtkkiklaoljdhhaaGreatDoorYkM
import Derived.Test.YtkkiklaoljdhhaaGreatDoorYkN
import Derived.Test.YtkkiklaoljdhhaaGreatDoorYkP
section
namespace Go.Proofs.YtkkiklaoljdhhaaGreatDoor
open Go.RowKit
theorem getD_appJ (p t : List UInt8) (j : Nat) (h : j < p.length) : (p ++ t).getD j 0 = p.getD j 0 := by
  rw [List.getD_eq_getElem?_getD, List.getD_eq_getElem?_getD, List.getElem?_append_left h]
theorem unitL_app (p t : List UInt8) (h : 6 ≤ p.length) : unitL (p ++ t) = unitL p := by
  unfold unitL
  rw [getD_appJ p t 0 (by omega), getD_appJ p t 1 (by omega), List.drop_append_of_le_length (by omega), List.take_append_of_le_length (by rw [List.length_drop]; omega)]
  by_cases hc : p.getD 0 0 = 92 ∧ p.getD 1 0 = 117
  · rw [if_pos ⟨by rw [List.length_append]; omega, hc⟩, if_pos ⟨h, hc⟩]
  · rw [if_neg (fun e => hc e.2), if_neg (fun e => hc e.2)]
theorem seqL_move (p q t : List UInt8) (h : (seqL (p ++ q)).2 ≠ 0) (hp : (seqL (p ++ q)).2 ≤ p.length) : seqL (p ++ t) = seqL (p ++ q) := by
  have h2 : 2 ≤ (seqL (p ++ q)).2 := by
    revert h
    unfold seqL
    split
    · intro _; exact Nat.le_refl _
    split
    · split
      · intro _; exact (by decide : 2 ≤ 12)
      · intro h; exact absurd rfl h
    split
    · intro h; exact absurd rfl h
    · intro _; exact (by decide : 2 ≤ 6)
  have hp1 : 1 < p.length := by omega
  revert h hp
  unfold seqL
  rw [getD_appJ p q 1 hp1, getD_appJ p t 1 hp1]
  split
  · intro _ _; rfl
  rename_i hm
  have key : 6 ≤ p.length → ∀ x, unitL (p ++ x) = unitL p := fun h6 x => unitL_app p x h6
  by_cases h6 : 6 ≤ p.length
  · rw [key h6 q, key h6 t]
    split
    · by_cases h12 : 12 ≤ p.length
      · rw [List.drop_append_of_le_length (by omega), List.drop_append_of_le_length (by omega), unitL_app _ q (by rw [List.length_drop]; omega), unitL_app _ t (by rw [List.length_drop]; omega)]
        intro _ _; rfl
      · split
        · intro _ h; exact absurd h h12
        · intro h; exact absurd rfl h
    · intro _ _; rfl
  · split
    · split
      · intro _ h; exact absurd (show 12 ≤ p.length from h) (by omega)
      · intro h; exact absurd rfl h
    split
    · intro h; exact absurd rfl h
    · intro _ h; exact absurd (show 6 ≤ p.length from h) h6
theorem decL_move (p q t : List UInt8) (hp : p ≠ []) (h : (decL (p ++ q)).2 ≠ 0) (hl : (decL (p ++ q)).2 ≤ p.length) : decL (p ++ t) = decL (p ++ q) := by
  have h1 := decL_cut (p ++ q) p.length (by simp [hp]) h hl (by rw [List.length_append]; omega)
  rw [List.take_left] at h1
  rw [decL_app p t hp (by rw [h1]; exact h), h1]
theorem parJ_move : ∀ (n : Nat) (p q : List UInt8) (a i : Int) (out o : List UInt8), p.length ≤ n → parJ a i (p ++ q) out = (o, i + (p.length : Nat), 0) → ∀ (a' i' : Int) (t : List UInt8), parJ a' i' (p ++ t) out = (o, i' + (p.length : Nat), 0)
  | n, p, q, a, i, out, o, hn, h, a', i', t => by
    have he := parJ_end a _ (p ++ q) i out (Nat.le_refl _) (by rw [h])
    rw [h] at he
    simp only at he
    have hp : p ≠ [] := fun e => by rw [e] at he; simp at he; omega
    have hpos := List.length_pos_iff.2 hp
    match n, hn with
    | 0, hn => omega
    | n + 1, hn =>
      have hg : ∀ x : List UInt8, (p ++ x).getD 0 0 = p.getD 0 0 := fun x => getD_appJ p x 0 hpos
      have hne : ∀ x : List UInt8, p ++ x ≠ [] := fun x => by simp [hp]
      rw [parJ_eq _ _ _ _ (hne q), hg] at h
      rw [parJ_eq _ _ _ _ (hne t), hg]
      by_cases h1 : p.getD 0 0 = 34
      · rw [if_pos h1] at h ⊢
        simp only [Prod.mk.injEq, and_true] at h ⊢
        exact ⟨h.1, by omega⟩
      rw [if_neg h1] at h ⊢
      by_cases h2 : p.getD 0 0 = 92
      · rw [if_pos h2] at h ⊢
        by_cases h3 : (p ++ q).length = 1
        · rw [if_pos h3] at h
          simp at h
        rw [if_neg h3] at h
        by_cases h4 : (seqL (p ++ q)).2 = 0
        · rw [if_pos h4] at h
          simp at h
        rw [if_neg h4] at h
        have hk := (seqL_ok (p ++ q) (by have := List.length_pos_iff.2 (hne q); omega)).1
        have hb := parJ_end a _ ((p ++ q).drop (seqL (p ++ q)).2) _ _ (Nat.le_refl _) (by rw [h])
        rw [h] at hb
        simp only [List.length_drop] at hb
        have hm : (seqL (p ++ q)).2 ≤ p.length := by omega
        have hs := seqL_move p q t h4 hm
        generalize hmm : (seqL (p ++ q)).2 = m at *
        rw [List.drop_append_of_le_length hm] at h
        have ih := parJ_move n (p.drop m) q a _ _ o (by rw [List.length_drop]; omega) (by rw [h, List.length_drop]; simp only [Prod.mk.injEq, true_and, and_true]; omega) a' (i' + m) t
        rw [if_neg (by rw [List.length_append]; omega), hs, hmm, if_neg h4, List.drop_append_of_le_length hm]
        rw [ih, List.length_drop]
        simp only [Prod.mk.injEq, true_and, and_true]
        omega
      rw [if_neg h2] at h ⊢
      by_cases h3 : (p.getD 0 0).toNat < 32
      · rw [if_pos h3] at h
        simp at h
      rw [if_neg h3] at h ⊢
      by_cases h4 : (decL (p ++ q)).2 = 0
      · rw [if_pos h4] at h
        simp at h
      rw [if_neg h4] at h
      have hk := (decL_ok (p ++ q) (hne q)).1
      have hb := parJ_end a _ ((p ++ q).drop (decL (p ++ q)).2) _ _ (Nat.le_refl _) (by rw [h])
      rw [h] at hb
      simp only [List.length_drop] at hb
      have hm : (decL (p ++ q)).2 ≤ p.length := by omega
      have hs := decL_move p q t hp h4 hm
      generalize hmm : (decL (p ++ q)).2 = m at *
      rw [List.drop_append_of_le_length hm] at h
      have ih := parJ_move n (p.drop m) q a _ _ o (by rw [List.length_drop]; omega) (by rw [h, List.length_drop]; simp only [Prod.mk.injEq, true_and, and_true]; omega) a' (i' + m) t
      rw [hs, hmm, if_neg h4, List.drop_append_of_le_length hm]
      rw [ih, List.length_drop]
      simp only [Prod.mk.injEq, true_and, and_true]
      omega
mutual
def shV (δ : Int) : ValD → ValD
  | .mk k b n s items mems a => .mk k b n s (shVs δ items) (shMs δ mems) (a + δ)
def shVs (δ : Int) : List ValD → List ValD
  | [] => []
  | k :: r => shV δ k :: shVs δ r
def shMs (δ : Int) : List MemD → List MemD
  | [] => []
  | k :: r => shM δ k :: shMs δ r
def shM (δ : Int) : MemD → MemD
  | .mk key v a => .mk key (shV δ v) (a + δ)
end
theorem shVs_map (δ : Int) : ∀ l : List ValD, shVs δ l = l.map (shV δ)
  | [] => by rw [shVs]; rfl
  | k :: r => by rw [shVs, shVs_map δ r]; rfl
theorem shMs_map (δ : Int) : ∀ l : List MemD, shMs δ l = l.map (shM δ)
  | [] => by rw [shMs]; rfl
  | k :: r => by rw [shMs, shMs_map δ r]; rfl
theorem shM_key (δ : Int) (m : MemD) : (shM δ m).key = m.key := by cases m; rw [shM]; rfl
theorem shMs_keys (δ : Int) (l : List MemD) : (shMs δ l).map MemD.key = l.map MemD.key := by
  rw [shMs_map, List.map_map]
  exact List.map_congr_left fun m _ => shM_key δ m
mutual
theorem veq_sh (δ : Int) : ∀ n : ValD, n.eqB false (shV δ n) = true
  | .mk k b n s items mems a => by
    rw [ValD.eqB, shV]
    have h1 : vheadEq false (.mk k b n s items mems a) (.mk k b n s (shVs δ items) (shMs δ mems) (a + δ)) = true := decide_eq_true ⟨rfl, rfl, rfl, rfl, (fun h => by cases h), by show items.length = (shVs δ items).length; rw [shVs_map, List.length_map], by show mems.length = (shMs δ mems).length; rw [shMs_map, List.length_map]⟩
    rw [h1, Bool.true_and]
    show (vsEq false items (shVs δ items) && msEq false mems (shMs δ mems)) = true
    rw [vseq_sh δ items, mseq_sh δ mems]
    rfl
theorem vseq_sh (δ : Int) : ∀ l : List ValD, vsEq false l (shVs δ l) = true
  | [] => by rw [vsEq]
  | k :: r => by rw [shVs, vsEq, veq_sh δ k, vseq_sh δ r]; rfl
theorem mseq_sh (δ : Int) : ∀ l : List MemD, msEq false l (shMs δ l) = true
  | [] => by rw [msEq]
  | k :: r => by rw [shMs, msEq, meq_sh δ k, mseq_sh δ r]; rfl
theorem meq_sh (δ : Int) : ∀ m : MemD, m.eqB false (shM δ m) = true
  | .mk key v a => by
    rw [shM, MemD.eqB]
    have h1 : decide (key = (MemD.mk key (shV δ v) (a + δ)).key ∧ (false = true → a = (MemD.mk key (shV δ v) (a + δ)).at')) = true := decide_eq_true ⟨rfl, fun h => by cases h⟩
    rw [h1, Bool.true_and]
    exact veq_sh δ v
end
theorem leaf_sh (δ : Int) (K : Int) (B : Bool) (N : Int) (x : ByteArray) (i i' : Nat) (h : (i : Int) + δ = i') : shV δ (leafV K B N x i) = leafV K B N x i' := by
  unfold leafV
  rw [shV, shVs, shMs, h]
theorem spN_move (p q t : List UInt8) (h : spN (p ++ q) < p.length) : spN (p ++ t) = spN (p ++ q) := by
  unfold spN at h ⊢
  have hp : (p.takeWhile spB).length < p.length := by
    rcases Nat.lt_or_ge (p.takeWhile spB).length p.length with h' | h'
    · exact h'
    · have he : p.takeWhile spB = p := (List.takeWhile_prefix spB).eq_of_length_le h'
      rw [List.takeWhile_append, if_pos (by rw [he])] at h
      rw [List.length_append] at h
      omega
  rw [List.takeWhile_append, List.takeWhile_append, if_neg (by omega), if_neg (by omega)]
theorem pre_move (c : UInt8) (p q t : List UInt8) (j : Nat) (h : j < p.length) : [c].isPrefixOf ((p ++ q).drop j) = [c].isPrefixOf ((p ++ t).drop j) := by
  rw [pre_one, pre_one, getD_appJ p q j h, getD_appJ p t j h, List.length_append, List.length_append]
  exact decide_eq_decide.2 ⟨fun e => ⟨by omega, e.2⟩, fun e => ⟨by omega, e.2⟩⟩
theorem word_move (i i' : Nat) (p q t w : List UInt8) (K : Int) (B : Bool) (v : ValD) (h : wordK i (p ++ q) w K B = .ok v p.length) : wordK i' (p ++ t) w K B = .ok (shV ((i' : Int) - i) v) p.length := by
  unfold wordK at h ⊢
  by_cases hw : w.isPrefixOf (p ++ q) = true
  · rw [if_pos hw] at h
    injection h with h1 h2
    have hpw : w = p := by
      have := List.isPrefixOf_iff_prefix.1 hw
      obtain ⟨r, hr⟩ := this
      exact (List.append_inj hr h2).1
    subst hpw
    rw [if_pos (List.isPrefixOf_iff_prefix.2 ⟨t, rfl⟩), ← h1, leaf_sh _ _ _ _ _ i i' (by omega)]
  · rw [if_neg hw] at h
    cases h
theorem str_move (i i' : Nat) (p q t : List UInt8) (hp : p ≠ []) (v : ValD) (h : strK i (p ++ q) = .ok v p.length) : strK i' (p ++ t) = .ok (shV ((i' : Int) - i) v) p.length := by
  have hpos := List.length_pos_iff.2 hp
  have hd : ∀ x : List UInt8, (p ++ x).drop 1 = p.drop 1 ++ x := fun x => List.drop_append_of_le_length (by omega)
  unfold strK at h ⊢
  rw [hd] at h ⊢
  by_cases he : (parJ i (i + 1) (p.drop 1 ++ q) []).2.2 ≠ 0
  · rw [if_pos he] at h
    cases h
  rw [if_neg he] at h
  injection h with h1 h2
  have hb := parJ_end i _ (p.drop 1 ++ q) (i + 1) [] (Nat.le_refl _) (by simpa using he)
  have hP : parJ i (i + 1) (p.drop 1 ++ q) [] = ((parJ i (i + 1) (p.drop 1 ++ q) []).1, (i : Int) + 1 + ((p.drop 1).length : Nat), 0) := by
    have e1 : (parJ i (i + 1) (p.drop 1 ++ q) []).2.1 = (i : Int) + 1 + ((p.drop 1).length : Nat) := by rw [List.length_drop]; omega
    have e2 : (parJ i (i + 1) (p.drop 1 ++ q) []).2.2 = 0 := by simpa using he
    rw [← e1, ← e2]
  have hM := parJ_move _ (p.drop 1) q _ _ _ _ (Nat.le_refl _) hP i' (i' + 1) t
  rw [hM, if_neg (by simp), ← h1, leaf_sh _ _ _ _ _ i i' (by omega), List.length_drop]
  simp only [Jres.ok.injEq, true_and]
  omega
def Stop (t : List UInt8) : Prop := t = [] ∨ numP (t.getD 0 0) = false
theorem num_move (i i' : Nat) (p q t : List UInt8) (v : ValD) (ht : Stop t) (h : numK i (p ++ q) = .ok v p.length) : numK i' (p ++ t) = .ok (shV ((i' : Int) - i) v) p.length := by
  unfold numK at h ⊢
  have hl : (p ++ q).takeWhile numP = p := by
    cases hj : jnumL ((p ++ q).takeWhile numP) with
    | none => rw [hj] at h; cases h
    | some n =>
      rw [hj] at h
      simp only at h
      injection h with h1 h2
      have hx := List.takeWhile_prefix numP (l := p ++ q)
      obtain ⟨r, hr⟩ := hx
      exact (List.append_inj hr h2).1
  have hall : p.takeWhile numP = p := by
    rw [List.takeWhile_append] at hl
    split at hl
    · rename_i h'
      exact (List.takeWhile_prefix numP).eq_of_length h'
    · exact hl
  have ht' : t.takeWhile numP = [] := by
    rcases ht with rfl | ht
    · rfl
    · cases t with
      | nil => rfl
      | cons c r => rw [List.takeWhile_cons, show numP c = false from ht]; rfl
  have hl2 : (p ++ t).takeWhile numP = p := by rw [List.takeWhile_append, if_pos (by rw [hall]), ht', List.append_nil]
  rw [hl] at h
  rw [hl2]
  cases hj : jnumL p with
  | none => rw [hj] at h; cases h
  | some n =>
    rw [hj] at h
    simp only at h ⊢
    injection h with h1 h2
    rw [← h1, leaf_sh _ _ _ _ _ i i' (by omega)]
end Go.Proofs.YtkkiklaoljdhhaaGreatDoor
end
section
namespace Go.Proofs.YtkkiklaoljdhhaaGreatDoor
open Go.RowKit
theorem key_move (i i' : Nat) (p q t : List UInt8) (keys : List ByteArray) (key : List UInt8) (h : keyK i (p ++ q) keys = .ok key p.length) : keyK i' (p ++ t) keys = .ok key p.length := by
  have hend := key_end _ _ _ _ _ h
  have hpos := hend.1
  have hp : p ≠ [] := List.length_pos_iff.1 hpos
  unfold keyK at h ⊢
  rw [getD_appJ p q 0 hpos] at h
  rw [getD_appJ p t 0 hpos]
  by_cases h34 : p.getD 0 0 ≠ 34
  · rw [if_pos h34] at h; cases h
  rw [if_neg h34] at h ⊢
  by_cases he : (parJ i (i + 1) ((p ++ q).drop 1) []).2.2 ≠ 0
  · rw [if_pos he] at h; cases h
  rw [if_neg he] at h
  by_cases hk : keys.any (fun x => decide (x = ofBytes (parJ i (i + 1) ((p ++ q).drop 1) []).1)) = true
  · rw [if_pos hk] at h; cases h
  rw [if_neg hk] at h
  have hb := parJ_end i _ ((p ++ q).drop 1) (i + 1) [] (Nat.le_refl _) (by simpa using he)
  obtain ⟨o, ho⟩ : ∃ o, (parJ i (i + 1) ((p ++ q).drop 1) []).1 = o := ⟨_, rfl⟩
  obtain ⟨e, hee⟩ : ∃ e : Nat, (parJ i (i + 1) ((p ++ q).drop 1) []).2.1 = (i : Int) + e := ⟨((parJ i (i + 1) ((p ++ q).drop 1) []).2.1 - i).toNat, by omega⟩
  rw [hee] at hb
  have hPe : parJ i (i + 1) ((p ++ q).drop 1) [] = (o, (i : Int) + e, 0) := by rw [← ho, ← hee, ← (by simpa using he : (parJ i (i + 1) ((p ++ q).drop 1) []).2.2 = 0)]
  rw [hPe] at h hk
  simp only at h hk
  rw [show ((i : Int) + e - i).toNat = e by omega] at h
  by_cases hc : [(58 : UInt8)].isPrefixOf ((p ++ q).drop (e + spN ((p ++ q).drop e))) = true
  · rw [if_pos hc] at h
    injection h with h1 h2
    have hel : e < p.length := by omega
    have hdq : ∀ x : List UInt8, (p ++ x).drop e = p.drop e ++ x := fun x => List.drop_append_of_le_length (by omega)
    rw [hdq] at hc h2
    have hsp := spN_move (p.drop e) q t (by rw [List.length_drop]; omega)
    have hP1 : ∀ x : List UInt8, (p ++ x).drop 1 = (p.take e).drop 1 ++ (p.drop e ++ x) := fun x => by
      rw [List.drop_append_of_le_length (by omega), ← List.append_assoc]
      congr 1
      rw [← List.drop_append_of_le_length (by rw [List.length_take]; omega), List.take_append_drop]
    have hln : ((p.take e).drop 1).length = e - 1 := by rw [List.length_drop, List.length_take]; omega
    rw [hP1] at hPe
    have hM := parJ_move _ ((p.take e).drop 1) _ _ _ _ o (Nat.le_refl _) (by rw [hPe, hln]; simp only [Prod.mk.injEq, true_and, and_true]; omega) i' (i' + 1) (p.drop e ++ t)
    rw [← hP1, hln, show (i' : Int) + 1 + ((e - 1 : Nat) : Int) = (i' : Int) + e by omega] at hM
    rw [hM]
    simp only
    rw [if_neg (by simp), if_neg hk, show ((i' : Int) + e - i').toNat = e by omega, hdq, hsp, ← pre_move 58 p q t _ (by omega), if_pos hc, ← h1, ← h2]
  · rw [if_neg hc] at h
    cases h
theorem vdepths_in : ∀ (l : List ValD) (m : Nat) (x : ValD), x ∈ l → x.depth ≤ vdepths l m
  | [], _, _, h => by cases h
  | k :: r, m, x, h => by
    rw [vdepths]
    rcases List.mem_cons.1 h with rfl | h
    · exact Nat.le_trans (Nat.le_max_right _ _) (vdepths_ge r _)
    · exact vdepths_in r _ x h
theorem mdepths_in : ∀ (l : List MemD) (m : Nat) (x : MemD), x ∈ l → x.v.depth ≤ mdepths l m
  | [], _, _, h => by cases h
  | k :: r, m, x, h => by
    rw [mdepths, mdepth_eq]
    rcases List.mem_cons.1 h with rfl | h
    · exact Nat.le_trans (Nat.le_max_right _ _) (mdepths_ge r _)
    · exact mdepths_in r _ x h
theorem list_depth : ∀ (f : Nat) (obj : Bool) (fr : Nat) (items : List ValD) (mems : List MemD) (i : Nat) (l : List UInt8) (d : Nat) (R : ValD) (k : Nat), listK f obj fr items mems i l d = .ok R k → (obj = false → ∀ x ∈ items, x.depth + 1 ≤ R.depth) ∧ (obj = true → ∀ m ∈ mems, m.v.depth + 1 ≤ R.depth)
  | 0, obj, fr, items, mems, i, l, d, R, k, h => by rw [listK] at h; cases h
  | f + 1, obj, fr, items, mems, i, l, d, R, k, h => by
    rw [listK] at h
    cases hK : (if obj then keyK (i + spN l) (l.drop (spN l)) (mems.map MemD.key) else Kres.ok [] 0) with
    | err a e => rw [hK] at h; cases h
    | ok key kk =>
      rw [hK] at h
      simp only at h
      cases hV : valK f (i + (spN l + kk)) (l.drop (spN l + kk)) (d + 1) with
      | err a e => rw [hV] at h; cases h
      | ok v kv =>
        rw [hV] at h
        simp only at h
        split at h
        · injection h with h1 h2
          subst h1
          refine ⟨fun ho x hx => ?_, fun ho m hm => ?_⟩
          · subst ho
            rw [ValD.depth, if_pos (show kindB false = 4 from rfl)]
            have := vdepths_in (items ++ [v]) 0 x (List.mem_append_left _ hx)
            simp only [Bool.false_eq_true, if_false]
            omega
          · subst ho
            rw [ValD.depth, if_neg (show ¬ kindB true = 4 by decide), if_pos (show kindB true = 5 from rfl)]
            have := mdepths_in (mems ++ [.mk (ofBytes key) v (i + spN l : Nat)]) 0 m (List.mem_append_left _ hm)
            simp only [if_true]
            omega
        · split at h
          · obtain ⟨k', hk', -⟩ := plus_ok h
            have ih := list_depth f obj fr _ _ _ _ _ R k' hk'
            refine ⟨fun ho x hx => ih.1 ho x ?_, fun ho m hm => ih.2 ho m ?_⟩
            · subst ho
              exact List.mem_append_left _ hx
            · subst ho
              exact List.mem_append_left _ hm
          · cases h
end Go.Proofs.YtkkiklaoljdhhaaGreatDoor
end
section
namespace Go.Proofs.YtkkiklaoljdhhaaGreatDoor
open Go.RowKit
theorem space_num (c : UInt8) (h : spB c = true) : numP c = false := by
  cases hn : numP c with
  | false => rfl
  | true =>
    exfalso
    unfold spB isSpaceB at h
    unfold numP jnumB at hn
    simp at h hn
    omega
theorem stop_of (X : List UInt8) (c : UInt8) (hc : numP c = false) (h : [c].isPrefixOf (X.drop (spN X)) = true) : Stop X := by
  cases X with
  | nil => exact .inl rfl
  | cons x r =>
    right
    show numP x = false
    cases hs : spB x with
    | true => exact space_num x hs
    | false =>
      rw [spN, List.takeWhile_cons, hs] at h
      have h : [c].isPrefixOf (x :: r) = true := h
      rw [List.isPrefixOf_cons_cons] at h
      have : (c == x) = true := by
        cases hcx : (c == x) with
        | true => rfl
        | false => rw [hcx] at h; simp at h
      rw [← (by simpa using this : c = x)]
      exact hc
def MvV (f : Nat) : Prop := ∀ (p q : List UInt8) (i d : Nat) (v : ValD), valK f i (p ++ q) d = .ok v p.length → ∀ (i' d' f' : Nat) (t : List UInt8) (δ : Int), δ = (i' : Int) - i → Stop t → v.depth + d' ≤ 101 → 3 * (p ++ t).length + 2 ≤ f' → valK f' i' (p ++ t) d' = .ok (shV δ v) p.length
def MvH (f : Nat) : Prop := ∀ (p q : List UInt8) (i d : Nat) (v : ValD), headK f i (p ++ q) d = .ok v p.length → ∀ (i' d' f' : Nat) (t : List UInt8) (δ : Int), δ = (i' : Int) - i → Stop t → v.depth + d' ≤ 101 → 3 * (p ++ t).length + 1 ≤ f' → headK f' i' (p ++ t) d' = .ok (shV δ v) p.length
def MvL (f : Nat) : Prop := ∀ (p q : List UInt8) (i d : Nat) (obj : Bool) (fr : Nat) (items : List ValD) (mems : List MemD) (R : ValD), listK f obj fr items mems i (p ++ q) d = .ok R p.length → ∀ (i' d' f' fr' : Nat) (t : List UInt8) (δ : Int), δ = (i' : Int) - i → δ = (fr' : Int) - fr → R.depth + d' ≤ 101 → 3 * (p ++ t).length + 3 ≤ f' → listK f' obj fr' (shVs δ items) (shMs δ mems) i' (p ++ t) d' = .ok (shV δ R) p.length
theorem move_val (f : Nat) (ih : MvH f) : MvV (f + 1) := by
  intro p q i d v h i' d' f' t δ hδ hS hd hf
  obtain ⟨g, rfl⟩ := Nat.exists_eq_add_of_le (show 1 ≤ f' by omega)
  rw [valK] at h
  obtain ⟨k', hk, hp⟩ := plus_ok h
  have hend := (ends f).2.1 d _ _ v k' hk
  have hlt : spN (p ++ q) < p.length := by omega
  have hsp := spN_move p q t hlt
  rw [Nat.add_comm 1 g, valK, hsp]
  generalize spN (p ++ q) = s at *
  rw [List.drop_append_of_le_length (by omega)] at hk ⊢
  have hl : (p.drop s).length = k' := by rw [List.length_drop]; omega
  rw [← hl] at hk
  rw [ih (p.drop s) q (i + s) d v hk (i' + s) d' g t δ (by omega) hS hd (by rw [List.length_append] at hf ⊢; rw [List.length_drop]; omega)]
  show Jres.ok _ _ = Jres.ok _ _
  rw [hl, hp]
theorem depth_pos (v : ValD) : 1 ≤ v.depth := by rw [vdepth_eq]; omega
theorem move_head (f : Nat) (ih : MvL f) : MvH (f + 1) := by
  intro p q i d v h i' d' f' t δ hδ hS hd hf
  obtain ⟨g, rfl⟩ := Nat.exists_eq_add_of_le (show 1 ≤ f' by omega)
  have hpos := ((ends (f + 1)).2.1 d i (p ++ q) v p.length h).1
  have hp : p ≠ [] := List.length_pos_iff.1 hpos
  have hvd := depth_pos v
  rw [headK, if_neg (by simp [hp]), getD_appJ p q 0 hpos] at h
  rw [Nat.add_comm 1 g, headK, if_neg (by simp [hp]), getD_appJ p t 0 hpos]
  subst hδ
  by_cases h1 : p.getD 0 0 = 110
  · rw [if_pos h1] at h ⊢
    exact word_move i i' p q t _ _ _ v h
  rw [if_neg h1] at h ⊢
  by_cases h2 : p.getD 0 0 = 116
  · rw [if_pos h2] at h ⊢
    exact word_move i i' p q t _ _ _ v h
  rw [if_neg h2] at h ⊢
  by_cases h3 : p.getD 0 0 = 102
  · rw [if_pos h3] at h ⊢
    exact word_move i i' p q t _ _ _ v h
  rw [if_neg h3] at h ⊢
  by_cases h4 : p.getD 0 0 = 34
  · rw [if_pos h4] at h ⊢
    exact str_move i i' p q t hp v h
  rw [if_neg h4] at h ⊢
  by_cases h5 : p.getD 0 0 = 91 ∨ p.getD 0 0 = 123
  · rw [if_pos h5] at h ⊢
    by_cases hd1 : d > 100
    · rw [if_pos hd1] at h; cases h
    rw [if_neg hd1] at h
    rw [if_neg (by omega)]
    generalize decide (p.getD 0 0 = 123) = b at *
    have hdr : ∀ x : List UInt8, (p ++ x).drop 1 = p.drop 1 ++ x := fun x => List.drop_append_of_le_length (by omega)
    rw [hdr] at h ⊢
    by_cases hpre : [endB b].isPrefixOf ((p ++ q).drop (1 + spN (p.drop 1 ++ q))) = true
    · rw [if_pos hpre] at h
      injection h with e1 e2
      have hsp := spN_move (p.drop 1) q t (by rw [List.length_drop]; omega)
      rw [hsp, ← pre_move (endB b) p q t _ (by omega), if_pos hpre, ← e1, ← e2, shV, shVs, shMs, show (i : Int) + ((i' : Int) - i) = i' by omega]
    · rw [if_neg hpre] at h
      obtain ⟨k', hk, hpl⟩ := plus_ok h
      have hend := (ends f).2.2 b i [] [] d _ _ v k' hk
      have hsp := spN_move (p.drop 1) q t (by rw [List.length_drop]; omega)
      rw [hsp, ← pre_move (endB b) p q t _ (by omega), if_neg hpre]
      have hj1 : 1 ≤ 1 + spN (p.drop 1 ++ q) := by omega
      generalize 1 + spN (p.drop 1 ++ q) = j at *
      rw [List.drop_append_of_le_length (by omega)] at hk ⊢
      have hl : (p.drop j).length = k' := by rw [List.length_drop]; omega
      rw [← hl] at hk
      have := ih (p.drop j) q (i + j) d b i [] [] v hk (i' + j) d' g i' t ((i' : Int) - i) (by omega) rfl hd (by rw [List.length_append] at hf ⊢; rw [List.length_drop]; omega)
      rw [shVs, shMs] at this
      rw [this]
      show Jres.ok _ _ = Jres.ok _ _
      rw [hl, hpl]
  rw [if_neg h5] at h ⊢
  by_cases h6 : p.getD 0 0 = 45 ∨ (48 ≤ (p.getD 0 0).toNat ∧ (p.getD 0 0).toNat ≤ 57)
  · rw [if_pos h6] at h ⊢
    exact num_move i i' p q t v hS h
  · rw [if_neg h6] at h
    cases h
theorem cut_two (p x : List UInt8) (a k : Nat) (h : a + k ≤ p.length) : (p ++ x).drop a = (p.drop a).take k ++ (p.drop (a + k) ++ x) := by
  rw [List.drop_append_of_le_length (by omega), ← List.append_assoc, ← List.drop_drop, List.take_append_drop]
theorem endB_num (obj : Bool) : numP (endB obj) = false := by cases obj <;> decide
set_option maxRecDepth 100000 in
theorem move_list (f : Nat) (ihV : MvV f) (ihL : MvL f) : MvL (f + 1) := by
  intro p q i d obj fr items mems R h i' d' f' fr' t δ hδ hfr hd hf
  obtain ⟨g, rfl⟩ := Nat.exists_eq_add_of_le (show 1 ≤ f' by omega)
  rw [listK] at h
  rw [Nat.add_comm 1 g, listK]
  cases hK : (if obj then keyK (i + spN (p ++ q)) ((p ++ q).drop (spN (p ++ q))) (mems.map MemD.key) else Kres.ok [] 0) with
  | err a e => rw [hK] at h; cases h
  | ok key kk =>
    rw [hK] at h
    simp only at h
    cases hV : valK f (i + (spN (p ++ q) + kk)) ((p ++ q).drop (spN (p ++ q) + kk)) (d + 1) with
    | err a e => rw [hV] at h; cases h
    | ok v kv =>
      rw [hV] at h
      simp only at h
      have hve := (ends f).1 (d + 1) _ _ v kv hV
      obtain ⟨s, hs⟩ : ∃ s, spN (p ++ q) = s := ⟨_, rfl⟩
      rw [hs] at h hK hV hve
      obtain ⟨m, hm⟩ : ∃ m, s + kk + kv = m := ⟨_, rfl⟩
      rw [hm] at h
      obtain ⟨n, hn⟩ : ∃ n, m + spN ((p ++ q).drop m) = n := ⟨_, rfl⟩
      rw [hn] at h
      have hmn : m ≤ n := by omega
      -- what is the same behind t, if it ends within p
      have same : ∀ c : UInt8, numP c = false → n < p.length → [c].isPrefixOf ((p ++ q).drop n) = true → v.depth + (d' + 1) ≤ 101 →
          spN (p ++ t) = s ∧ (if obj then keyK (i' + s) ((p ++ t).drop s) ((shMs δ mems).map MemD.key) else Kres.ok [] 0) = .ok key kk ∧ valK g (i' + (s + kk)) ((p ++ t).drop (s + kk)) (d' + 1) = .ok (shV δ v) kv ∧ m + spN ((p ++ t).drop m) = n := by
        intro c hc hnp hpre hdv
        have hsp := spN_move p q t (by omega)
        have hdm : ∀ x : List UInt8, (p ++ x).drop m = p.drop m ++ x := fun x => List.drop_append_of_le_length (by omega)
        have hsm := spN_move (p.drop m) q t (by rw [← hdm, List.length_drop]; omega)
        have hn2 : m + spN ((p ++ t).drop m) = n := by rw [hdm, hsm, ← hdm, hn]
        refine ⟨by rw [hsp, hs], ?_, ?_, hn2⟩
        · cases obj with
          | false => exact hK
          | true =>
            simp only [if_true] at hK ⊢
            rw [shMs_keys]
            rw [cut_two p q s kk (by omega)] at hK
            rw [cut_two p t s kk (by omega)]
            have hl : ((p.drop s).take kk).length = kk := by rw [List.length_take, List.length_drop]; omega
            have := key_move (i + s) (i' + s) ((p.drop s).take kk) _ (p.drop (s + kk) ++ t) _ key (by rw [hK, hl])
            rw [this, hl]
        · rw [cut_two p q (s + kk) kv (by omega)] at hV
          rw [cut_two p t (s + kk) kv (by omega)]
          have hl : ((p.drop (s + kk)).take kv).length = kv := by rw [List.length_take, List.length_drop]; omega
          have hst : Stop (p.drop (s + kk + kv) ++ t) := by
            rw [hm]
            refine stop_of _ c hc ?_
            rw [← hdm, List.drop_drop, hn2, ← pre_move c p q t n hnp]
            exact hpre
          have := ihV ((p.drop (s + kk)).take kv) _ (i + (s + kk)) (d + 1) v (by rw [hV, hl]) (i' + (s + kk)) (d' + 1) g (p.drop (s + kk + kv) ++ t) δ (by omega) hst hdv (by
            rw [List.length_append, hl, List.length_append, List.length_drop]
            rw [List.length_append] at hf
            omega)
          rw [this, hl]
      have hI : shVs δ (if obj then items else items ++ [v]) = if obj then shVs δ items else shVs δ items ++ [shV δ v] := by
        cases obj
        · simp [shVs_map]
        · rfl
      have hM : shMs δ (if obj then mems ++ [.mk (ofBytes key) v (i + s : Nat)] else mems) = if obj then shMs δ mems ++ [.mk (ofBytes key) (shV δ v) (i' + s : Nat)] else shMs δ mems := by
        cases obj
        · rfl
        · simp only [if_true, shMs_map, List.map_append, List.map_cons, List.map_nil]
          rw [shM, show ((i + s : Nat) : Int) + δ = ((i' + s : Nat) : Int) by omega]
      by_cases hE : [endB obj].isPrefixOf ((p ++ q).drop n) = true
      · rw [if_pos hE] at h
        injection h with e1 e2
        have hdv : v.depth + 1 ≤ R.depth := by
          rw [← e1]
          cases obj with
          | false =>
            rw [ValD.depth, if_pos (show kindB false = 4 from rfl)]
            have := vdepths_in (items ++ [v]) 0 v (by simp)
            simp only [Bool.false_eq_true, if_false]
            omega
          | true =>
            rw [ValD.depth, if_neg (show ¬ kindB true = 4 by decide), if_pos (show kindB true = 5 from rfl)]
            have : v.depth ≤ _ := mdepths_in (mems ++ [.mk (ofBytes key) v (i + s : Nat)]) 0 (.mk (ofBytes key) v (i + s : Nat)) (by simp)
            simp only [if_true]
            omega
        obtain ⟨a1, a2, a3, a4⟩ := same (endB obj) (endB_num obj) (by omega) hE (by omega)
        rw [a1, a2]
        simp only
        rw [a3]
        simp only
        rw [hm, a4, ← pre_move (endB obj) p q t n (by omega), if_pos hE, ← e1, ← e2, shV, hI, hM, show (fr : Int) + δ = fr' by omega]
      · rw [if_neg hE] at h
        by_cases hC : [(44 : UInt8)].isPrefixOf ((p ++ q).drop n) = true
        · rw [if_pos hC] at h
          obtain ⟨k', hk, hpl⟩ := plus_ok h
          have hend := (ends f).2.2 obj fr _ _ d _ _ R k' hk
          have hdv : v.depth + 1 ≤ R.depth := by
            have hld := list_depth f obj fr _ _ _ _ _ R k' hk
            cases obj with
            | false => exact hld.1 rfl v (by simp)
            | true => exact hld.2 rfl (.mk (ofBytes key) v (i + s : Nat)) (by simp)
          obtain ⟨a1, a2, a3, a4⟩ := same 44 (by decide) (by omega) hC (by omega)
          rw [a1, a2]
          simp only
          rw [a3]
          simp only
          rw [hm, a4, ← pre_move (endB obj) p q t n (by omega), if_neg hE, ← pre_move 44 p q t n (by omega), if_pos hC]
          rw [List.drop_append_of_le_length (by omega)] at hk ⊢
          have hl : (p.drop (n + 1)).length = k' := by rw [List.length_drop]; omega
          rw [← hl] at hk
          have := ihL (p.drop (n + 1)) q (i + (n + 1)) d obj fr _ _ R hk (i' + (n + 1)) d' g fr' t δ (by omega) hfr hd (by rw [List.length_append] at hf ⊢; rw [List.length_drop]; omega)
          rw [hI, hM] at this
          rw [this]
          show Jres.ok _ _ = Jres.ok _ _
          rw [hl, hpl]
        · rw [if_neg hC] at h
          cases h
theorem move_all : ∀ f, MvV f ∧ MvH f ∧ MvL f
  | 0 => by
    refine ⟨?_, ?_, ?_⟩
    · intro p q i d v h
      rw [valK] at h
      cases h
    · intro p q i d v h
      rw [headK] at h
      cases h
    · intro p q i d obj fr items mems R h
      rw [listK] at h
      cases h
  | f + 1 => ⟨move_val f (move_all f).2.1, move_head f (move_all f).2.2, move_list f (move_all f).1 (move_all f).2.2⟩
end Go.Proofs.YtkkiklaoljdhhaaGreatDoor
end
section
namespace Go.Proofs.YtkkiklaoljdhhaaGreatDoor
open Go.RowKit
theorem spN_all : ∀ (w x : List UInt8), (∀ c ∈ w, spB c = true) → spN x = 0 → spN (w ++ x) = w.length
  | [], x, _, hx => hx
  | c :: r, x, hw, hx => by
    have ih := spN_all r x (fun y hy => hw y (List.mem_cons_of_mem _ hy)) hx
    unfold spN at ih ⊢
    rw [List.cons_append, List.takeWhile_cons, hw c List.mem_cons_self]
    simp only [if_true, List.length_cons, ih]
theorem spN_drop (l : List UInt8) : spN (l.drop (spN l)) = 0 := by
  have h := List.takeWhile_append_dropWhile (p := spB) (l := l)
  have h2 : (l.takeWhile spB ++ l.dropWhile spB).drop (l.takeWhile spB).length = l.dropWhile spB := List.drop_left
  rw [h] at h2
  show ((l.drop (l.takeWhile spB).length).takeWhile spB).length = 0
  rw [h2]
  cases hd : l.dropWhile spB with
  | nil => rfl
  | cons c r =>
    have := List.head?_dropWhile_not spB l
    rw [hd] at this
    simp only [List.head?_cons] at this
    rw [List.takeWhile_cons]
    cases hs : spB c with
    | false => rfl
    | true => rw [hs] at this; cases this
theorem val_around (f : Nat) (p q : List UInt8) (i d : Nat) (v : ValD) (h : headK f i (p ++ q) d = .ok v p.length) (hs : ∀ x, spN (p ++ x) = 0) (w t : List UInt8) (hw : ∀ c ∈ w, spB c = true) (ht : Stop t) (i' d' f' : Nat) (hd : v.depth + d' ≤ 101) (hf : 3 * (w ++ (p ++ t)).length + 2 ≤ f') :
    valK f' i' (w ++ (p ++ t)) d' = .ok (shV ((i' : Int) + w.length - i) v) (w.length + p.length) := by
  obtain ⟨g, rfl⟩ := Nat.exists_eq_add_of_le (show 1 ≤ f' by omega)
  rw [Nat.add_comm 1 g, valK, spN_all w (p ++ t) hw (hs t), List.drop_left]
  rw [(move_all f).2.1 p q i d v h (i' + w.length) d' g t ((i' : Int) + w.length - i) (by omega) ht hd (by rw [List.length_append] at hf; omega)]
  rfl
theorem tw_mem : ∀ (l : List UInt8) (c : UInt8), c ∈ l.takeWhile spB → spB c = true
  | [], c, h => by cases h
  | x :: r, c, h => by
    rw [List.takeWhile_cons] at h
    cases hs : spB x with
    | false => rw [hs] at h; simp at h
    | true =>
      rw [hs] at h
      simp only [if_true] at h
      rcases List.mem_cons.1 h with rfl | h
      · exact hs
      · exact tw_mem r c h
theorem ok_parts (s : List UInt8) (v : ValD) (n : Int) (hb : ¬ [239, 187, 191].isPrefixOf s = true) (h : parR s = (v, n, 0)) (hnz : ∀ a, tA s ≠ .err a 0) :
    ∃ w p r : List UInt8, s = w ++ (p ++ r) ∧ (∀ c ∈ w, spB c = true) ∧ (∀ c ∈ r, spB c = true) ∧ (∀ x, spN (p ++ x) = 0) ∧ ∃ f, headK f w.length (p ++ r) 1 = .ok v p.length := by
  unfold parR at h
  cases hT : tA s with
  | err a e =>
    rw [hT] at h
    simp only [Prod.mk.injEq] at h
    exact absurd hT (by rw [h.2.2]; exact hnz a)
  | ok v' j' =>
    rw [hT] at h
    simp only [Prod.mk.injEq] at h
    obtain ⟨rfl, -, -⟩ := h
    unfold tA at hT
    rw [if_neg hb] at hT
    cases hV : vA s 0 1 with
    | err a e => rw [hV] at hT; cases hT
    | ok u j =>
      rw [hV] at hT
      simp only at hT
      by_cases hsp : spP s j < s.length
      · rw [if_pos hsp] at hT; cases hT
      rw [if_neg hsp] at hT
      injection hT with e1 e2
      subst e1
      unfold vA at hV
      rw [List.drop_zero] at hV
      cases hK : valK (3 * s.length + 2) 0 s 1 with
      | err a e => rw [hK] at hV; cases hV
      | ok u' k =>
        rw [hK] at hV
        have hV : Ares.ok u' (0 + k) = .ok u j := hV
        injection hV with e3 e4
        subst e3
        rw [valK] at hK
        obtain ⟨k', hk, hkk⟩ := plus_ok hK
        have hend := (ends _).2.1 1 _ _ u' k' hk
        rw [Nat.zero_add] at hk
        have h0 := spN_drop s
        generalize hsn : spN s = n at *
        have hj : j = n + k' := by omega
        have hcut : (s.drop n).take k' ++ (s.drop n).drop k' = s.drop n := List.take_append_drop _ _
        have hpl : ((s.drop n).take k').length = k' := by rw [List.length_take]; omega
        refine ⟨s.take n, (s.drop n).take k', (s.drop n).drop k', by rw [hcut, List.take_append_drop], ?_, ?_, ?_, 3 * s.length + 1, ?_⟩
        · intro c hc
          refine tw_mem s c ?_
          have := List.takeWhile_prefix spB (l := s)
          obtain ⟨y, hy⟩ := this
          have e5 : s.take n = s.takeWhile spB := by
            conv => lhs; rw [← hy]
            rw [← hsn]
            exact List.take_left
          rw [← e5]
          exact hc
        · intro c hc
          rw [List.drop_drop, ← hj] at hc
          have hsl : spP s j = j + spN (s.drop j) := spP_spN s j
          have hle := List.takeWhile_prefix spB (l := s.drop j)
          have e6 : (s.drop j).takeWhile spB = s.drop j := hle.eq_of_length_le (by
            show _ ≤ spN (s.drop j)
            rw [List.length_drop]
            omega)
          rw [← e6] at hc
          exact tw_mem _ c hc
        · intro x
          cases hd : s.drop n with
          | nil => rw [hd] at hend; simp at hend; omega
          | cons c y =>
            rw [hd] at h0
            have hcs : spB c = false := by
              cases hb2 : spB c with
              | false => rfl
              | true =>
                unfold spN at h0
                rw [List.takeWhile_cons, hb2] at h0
                simp at h0
            obtain ⟨k2, rfl⟩ := Nat.exists_eq_add_of_le (show 1 ≤ k' by omega)
            rw [Nat.add_comm 1 k2, List.take_succ_cons, List.cons_append]
            unfold spN
            rw [List.takeWhile_cons, hcs]
            rfl
        · rw [hcut, hpl, List.length_take, Nat.min_eq_left (by rw [← hsn]; exact spN_le s)]
          exact hk
theorem stop_sp (r : List UInt8) (h : ∀ c ∈ r, spB c = true) (x : List UInt8) (hx : Stop x) : Stop (r ++ x) := by
  cases r with
  | nil => exact hx
  | cons c y => exact .inr (space_num c (h c List.mem_cons_self))
theorem all_app {a b : List UInt8} (ha : ∀ c ∈ a, spB c = true) (hb : ∀ c ∈ b, spB c = true) : ∀ c ∈ a ++ b, spB c = true := fun c hc => (List.mem_append.1 hc).elim (ha c) (hb c)
theorem spaces_ok (s : List UInt8) (v : ValD) (n : Int) (hb : ¬ [239, 187, 191].isPrefixOf s = true) (h : parR s = (v, n, 0)) (hnz : ∀ a, tA s ≠ .err a 0) (sp : List UInt8) (hsp : ∀ c ∈ sp, spB c = true) (hd : v.depth ≤ 100) :
    ∃ v', parR (sp ++ s ++ sp) = (v', ((sp ++ s ++ sp).length : Int), 0) ∧ v.eqB false v' = true := by
  obtain ⟨w, p, r, hs, hw, hr, hp0, f, hh⟩ := ok_parts s v n hb h hnz
  have hbom : ¬ [239, 187, 191].isPrefixOf (sp ++ s ++ sp) = true := by
    cases sp with
    | nil => rw [List.nil_append, List.append_nil]; exact hb
    | cons c y =>
      have hc := hsp c List.mem_cons_self
      have : c ≠ 239 := fun e => by rw [e] at hc; revert hc; decide
      simp [List.isPrefixOf]
      exact fun e => absurd e.symm this
  have ht : sp ++ s ++ sp = (sp ++ w) ++ (p ++ (r ++ sp)) := by rw [hs]; simp [List.append_assoc]
  have hall := all_app hr hsp
  have hV := val_around f p r w.length 1 v hh hp0 (sp ++ w) (r ++ sp) (all_app hsp hw) (by have := stop_sp (r ++ sp) hall [] (.inl rfl); rwa [List.append_nil] at this) 0 1 (3 * (sp ++ s ++ sp).length + 2) (by omega) (by rw [← ht]; omega)
  rw [← ht] at hV
  refine ⟨_, ?_, veq_sh (((0 : Nat) : Int) + ((sp ++ w).length : Nat) - (w.length : Nat)) v⟩
  unfold parR tA
  rw [if_neg hbom]
  have hA : vA (sp ++ s ++ sp) 0 1 = .ok (shV (((0 : Nat) : Int) + ((sp ++ w).length : Nat) - (w.length : Nat)) v) ((sp ++ w).length + p.length) := by
    unfold vA
    rw [List.drop_zero, hV]
    show Ares.ok _ (0 + _) = _
    rw [Nat.zero_add]
  rw [hA]
  have hend : ¬ spP (sp ++ s ++ sp) ((sp ++ w).length + p.length) < (sp ++ s ++ sp).length := by
    rw [spP_spN, ht, ← List.drop_drop, List.drop_left, List.drop_left]
    have := spN_all (r ++ sp) [] hall rfl
    rw [List.append_nil] at this
    rw [this]
    simp only [List.length_append]
    omega
  simp only
  rw [if_neg hend]
end Go.Proofs.YtkkiklaoljdhhaaGreatDoor
end
