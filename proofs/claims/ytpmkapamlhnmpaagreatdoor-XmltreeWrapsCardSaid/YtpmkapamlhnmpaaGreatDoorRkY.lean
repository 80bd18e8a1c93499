/- Packed from the texts TrfW TrfD TrfX TrfY. -/
import Derived.Test.YtpmkapamlhnmpaaGreatDoorRkF
import Derived.Test.YtpmkapamlhnmpaaGreatDoorRkD
import Derived.Test.YtpmkapamlhnmpaaGreatDoorRkB
import Derived.Lib.Repeat
section
namespace Go.Proofs.YtpmkapamlhnmpaaGreatDoor
open Go.RowKit
theorem contF_mem (l : List UInt8) (j : Nat) (v : Bool) (x : UInt8) : ∀ f i out, (contF l j v f i out).2.2 = 0 → x ∈ out → x ∈ (contF l j v f i out).1
  | 0, _, _, _, hx => hx
  | f + 1, i, out, h, hx => by
    rw [contF] at h ⊢
    by_cases hi : i < j
    · rw [if_pos hi] at h ⊢
      by_cases hc : l.getD i 0 = 38
      · rw [if_pos hc] at h ⊢
        by_cases h0 : (refAt (l.take j) i).2.2 = 0
        · rw [if_pos h0] at h ⊢
          exact contF_mem l j v x f _ _ h (List.mem_append_left _ hx)
        · rw [if_neg h0] at h
          exact absurd h h0
      · rw [if_neg hc] at h ⊢
        exact contF_mem l j v x f _ _ h (List.mem_append_left _ hx)
    · rw [if_neg hi]
      exact hx
theorem linesP_mem : ∀ l : List UInt8, (62 : UInt8) ∈ l → (62 : UInt8) ∈ linesP l
  | [], h => by cases h
  | c :: r, h => by
    rw [linesP]
    rcases List.mem_cons.1 h with rfl | h
    · rw [if_neg (by rintro ⟨q, _⟩; exact absurd q (by decide)), if_neg (by decide)]
      exact List.mem_cons_self
    · split
      · exact linesP_mem r h
      · exact List.mem_cons_of_mem _ (linesP_mem r h)
theorem spMap_mem (v : Bool) (l : List UInt8) (h : (62 : UInt8) ∈ l) : (62 : UInt8) ∈ spMap v l := by
  unfold spMap
  cases v
  · exact h
  · exact List.mem_map.2 ⟨62, h, by decide⟩
theorem ref_semi (l : List UInt8) (i : Nat) (h : (refAt l i).2.2 = 0) : ∃ k : Nat, (refAt l i).2.1 = ((k + 1 : Nat) : Int) ∧ i < k ∧ k < l.length ∧ l.getD k 0 = 59 := by
  unfold refAt at h ⊢
  split at h
  · rename_i h1
    split at h
    · rename_i h2
      rw [if_pos h1, if_pos h2]
      refine ⟨i + 1 + (tw (l.drop (i + 1))).length, rfl, by omega, h1, ?_⟩
      have hw : tw (l.drop (i + 1)) = (l.drop (i + 1)).takeWhile (fun c => c != 59) := rfl
      rw [hw] at h1 ⊢
      have hl : ((l.drop (i + 1)).takeWhile (fun c => c != 59)).length < (l.drop (i + 1)).length := by rw [List.length_drop]; omega
      have hx := List.takeWhile_append_dropWhile (p := fun c : UInt8 => c != 59) (l := l.drop (i + 1))
      have hne : (l.drop (i + 1)).dropWhile (fun c => c != 59) ≠ [] := by
        intro q
        rw [q, List.append_nil] at hx
        rw [hx] at hl
        omega
      obtain ⟨c, r, hcr⟩ := List.exists_cons_of_ne_nil hne
      have hc : c = 59 := by
        have := List.head_dropWhile_not (fun c : UInt8 => c != 59) hne
        simp only [hcr, List.head_cons] at this
        simpa using this
      rw [List.getD_eq_getElem?_getD]
      have h3 : l[i + 1 + ((l.drop (i + 1)).takeWhile (fun c => c != 59)).length]? = (l.drop (i + 1))[((l.drop (i + 1)).takeWhile (fun c => c != 59)).length]? := by rw [List.getElem?_drop]
      rw [h3]
      have h4 : (l.drop (i + 1))[((l.drop (i + 1)).takeWhile (fun c => c != 59)).length]? = some 59 := by
        have h5 : ∀ (a b : List UInt8) (c : UInt8), (a ++ c :: b)[a.length]? = some c := fun a b c => by simp
        have h6 := h5 ((l.drop (i + 1)).takeWhile (fun c => c != 59)) r c
        rw [← hcr, hx] at h6
        rw [h6, hc]
      rw [h4]
      rfl
    · simp at h
  · simp at h
theorem contF_last (l : List UInt8) (j : Nat) (v : Bool) (hj : j ≤ l.length) (h62 : l.getD (j - 1) 0 = 62) : ∀ f i out, i < j → j - i < f → (contF l j v f i out).2.2 = 0 → (62 : UInt8) ∈ (contF l j v f i out).1
  | 0, _, _, _, h, _ => absurd h (by omega)
  | f + 1, i, out, hi, hf, h => by
    rw [contF, if_pos hi] at h ⊢
    by_cases hc : l.getD i 0 = 38
    · rw [if_pos hc] at h ⊢
      by_cases h0 : (refAt (l.take j) i).2.2 = 0
      · rw [if_pos h0] at h ⊢
        obtain ⟨k, hk, h1, h2, h3⟩ := ref_semi _ _ h0
        rw [hk, Int.toNat_natCast] at h ⊢
        have h4 : (l.take j).length = j := by rw [List.length_take]; omega
        rw [h4] at h2
        have h5 : l.getD k 0 = 59 := by
          rw [List.getD_eq_getElem?_getD, List.getElem?_take_of_lt h2] at h3
          rwa [List.getD_eq_getElem?_getD]
        by_cases hkj : k + 1 = j
        · rw [← hkj, Nat.add_sub_cancel, h5] at h62
          exact absurd h62 (by decide)
        · exact contF_last l j v hj h62 f _ _ (by omega) (by omega) h
      · rw [if_neg h0] at h
        exact absurd h h0
    · rw [if_neg hc] at h ⊢
      have hp := chunk_pos l i j hi hj hc
      have hle : (chunk l i j).length ≤ j - i := by
        unfold chunk
        refine Nat.le_trans (amp_len _) ?_
        rw [List.length_take]
        omega
      by_cases hr : i + (chunk l i j).length = j
      · refine contF_mem l j v 62 f _ _ h (List.mem_append_right _ (spMap_mem v _ (linesP_mem _ ?_)))
        have hpre : chunk l i j <+: (l.drop i).take (j - i) := by unfold chunk amp; exact List.takeWhile_prefix _
        have heq := hpre.eq_of_length (by rw [List.length_take, List.length_drop]; omega)
        rw [heq]
        have : ((l.drop i).take (j - i))[j - 1 - i]? = some 62 := by
          rw [List.getElem?_take_of_lt (by omega), List.getElem?_drop, show i + (j - 1 - i) = j - 1 by omega]
          rw [List.getD_eq_getElem?_getD, List.getElem?_eq_getElem (by omega)] at h62
          rw [List.getElem?_eq_getElem (by omega)]
          exact congrArg some h62
        exact List.mem_of_getElem? this
      · exact contF_last l j v hj h62 f _ _ (by omega) (by omega) h
theorem tokGo_leftB (s r : ByteArray) (h62 : s.data.toList.getD (s.size - 1) 0 = 62) : ∀ f a acc F, s.size - a < f → (s ++ r).size - a < F → a ≤ s.size → (tokGo s f a acc).2.2 = 0 → (∀ x, (tokGo s f a acc).1.getLast? = some x → x.kind = 3 → (62 : UInt8) ∉ x.tx) → ∃ G, (s ++ r).size - s.size < G ∧ tokGo (s ++ r) F a acc = tokGo (s ++ r) G s.size (tokGo s f a acc).1
  | 0, _, _, _, h, _, _, _, _ => absurd h (by omega)
  | f + 1, a, acc, 0, _, h, _, _, _ => absurd h (by omega)
  | f + 1, a, acc, F + 1, hf, hF, ha, h0, hk => by
    have hz : (s ++ r).size = s.size + r.size := ByteArray.size_append
    by_cases hlt : a < s.size
    · have e1 : tokGo s (f + 1) a acc = (if (consP s a).2.2 ≠ 0 then ([], (consP s a).2.1, (consP s a).2.2) else tokGo s f (consP s a).2.1.toNat (if (consP s a).1.kind ≠ 3 ∨ (consP s a).1.tx ≠ [] then acc ++ [(consP s a).1] else acc)) := by rw [tokGo, if_pos hlt]
      rw [e1] at h0 hk ⊢
      clear e1
      by_cases hc : (consP s a).2.2 = 0
      · rw [if_neg (c := (consP s a).2.2 ≠ 0) (fun q => q hc)] at h0 hk ⊢
        obtain ⟨z, hzz, hz1, hz2⟩ := consP_ok s a hlt hc
        rw [hzz, Int.toNat_natCast] at h0 hk ⊢
        have hd : hasP s.data.toList (a : Int) [60] = false → nextP s.data.toList a [60] ≠ -1 := by
          intro h60 hn
          have hnf : ∀ t, hasP s.data.toList (a : Int) (60 :: t) = false := fun t => by
            cases hq : hasP s.data.toList (a : Int) (60 :: t) with
            | false => rfl
            | true =>
              exfalso
              unfold hasP at hq h60
              rw [Bool.and_eq_true] at hq
              rw [hq.1, Bool.true_and] at h60
              obtain ⟨y, hy⟩ := List.isPrefixOf_iff_prefix.1 hq.2
              rw [← hy] at h60
              simp at h60
          have hcd : consP s a = dataP s a := by
            unfold consP
            simp only [hnf, Bool.false_eq_true, if_false]
          have hde : dataEnd s a = s.size := by unfold dataEnd; rw [hn, if_pos (by decide)]
          have hcp : (contP s.data.toList a s.size false).2.2 = 0 := by
            rw [hcd] at hc
            unfold dataP at hc
            rw [hde] at hc
            exact hc
          have hne := contP_ne s.data.toList a s.size false hlt (by rw [bsl]; exact Nat.le_refl _) hcp
          have htx : (consP s a).1 = tokT (contP s.data.toList a s.size false).1 a := by rw [hcd]; unfold dataP; rw [hde]
          have hzs : z = s.size := by
            have h1 := contP_ok _ _ _ _ hcp
            rw [hcd] at hzz
            unfold dataP at hzz
            rw [hde, h1] at hzz
            omega
          rw [htx, hzs] at hk
          obtain ⟨f', rfl⟩ : ∃ f', f = f' + 1 := ⟨f - 1, by omega⟩
          rw [if_pos (.inr hne), tokGo, if_neg (Nat.lt_irrefl _)] at hk
          exact hk _ List.getLast?_concat rfl (contF_last _ _ _ (by rw [bsl]; exact Nat.le_refl _) h62 _ _ _ hlt (by omega) hcp)
        have hcl := consP_left s r a hlt hc hd
        obtain ⟨G, hG, e⟩ := tokGo_leftB s r h62 f z _ F (by omega) (by omega) hz2 h0 hk
        refine ⟨G, hG, ?_⟩
        rw [tokGo, if_pos (by omega), hcl, if_neg (c := (consP s a).2.2 ≠ 0) (fun q => q hc), hzz, Int.toNat_natCast]
        exact e
      · rw [if_pos (c := (consP s a).2.2 ≠ 0) hc] at h0
        exact absurd h0 hc
    · obtain rfl : a = s.size := by omega
      refine ⟨F + 1, hF, ?_⟩
      have e2 : tokGo s (f + 1) s.size acc = (acc, (s.size : Int), 0) := by rw [tokGo, if_neg hlt]
      rw [e2]
theorem toks_concB (s t : ByteArray) (h62 : s.data.toList.getD (s.size - 1) 0 = 62) (hs : (toksP s).2.2 = 0) (hl : (toksP s).1 ≠ []) (hk : ∀ x, (toksP s).1.getLast? = some x → x.kind = 3 → (62 : UInt8) ∉ x.tx) (hb : hasP t.data.toList 0 [239, 187, 191] = false) :
    toksP (s ++ t) = shG s.size (toksP s).1 (toksP t) := by
  have hz : (s ++ t).size = s.size + t.size := ByteArray.size_append
  have hc : (chk s).2 = 0 := by
    unfold toksP at hs
    by_cases h : (chk s).2 = 0
    · exact h
    · rw [if_pos h] at hs
      simp only at hs
      omega
  have h0 : 0 < s.size := by
    rcases Nat.eq_zero_or_pos s.size with h | h
    · exfalso
      apply hl
      unfold toksP
      rw [if_neg (by simpa using hc), tokGo, if_neg (by omega)]
    · exact h
  have hca := chk_append s t hc
  have hbl := bom_left s t hc h0
  obtain ⟨a, hadef⟩ : ∃ a, a = if hasP s.data.toList 0 [239, 187, 191] = true then 3 else 0 := ⟨_, rfl⟩
  have e0 : toksP s = tokGo s (s.size + 1) a [] := by
    unfold toksP
    rw [if_neg (show ¬ (chk s).2 ≠ 0 by simpa using hc), ← hadef]
  rw [e0] at hs hl hk ⊢
  by_cases hct : (chk t).2 = 0
  · have e1 : toksP t = tokGo t (t.size + 1) 0 [] := by
      unfold toksP
      rw [if_neg (show ¬ (chk t).2 ≠ 0 by simpa using hct), hb, if_neg ff]
    have e2 : toksP (s ++ t) = tokGo (s ++ t) ((s ++ t).size + 1) a [] := by
      unfold toksP
      rw [hca, hbl, ← hadef, if_neg (show ¬ (chk t).2 ≠ 0 by simpa using hct)]
    have ha : a ≤ s.size := by
      rw [hadef]
      split
      · rename_i h
        have := hasP_len (i := 0) h (by decide)
        rw [bsl] at this
        simpa using this
      · exact Nat.zero_le _
    obtain ⟨G, hG, e⟩ := tokGo_leftB s t h62 (s.size + 1) a [] ((s ++ t).size + 1) (by omega) (by omega) ha hs hk
    rw [e1, e2, e, tokGo_more t (t.size + 1) G 0 [] (by omega) (by omega)]
    have hr := tokGo_right s t (tokGo s (s.size + 1) a []).1 G 0 [] (by omega) (Nat.zero_le _)
    rw [List.map_nil, List.append_nil, Nat.add_zero] at hr
    exact hr
  · have e1 : toksP t = ([], ((chk t).1 : Int), ((chk t).2 : Int)) := by
      unfold toksP
      rw [if_pos hct]
    have e2 : toksP (s ++ t) = ([], ((s.size + (chk t).1 : Nat) : Int), ((chk t).2 : Int)) := by
      unfold toksP
      rw [hca, if_pos hct]
    rw [e1, e2]
    unfold shG
    rw [if_neg (by simp only; omega)]
    simp only
    rw [show ((s.size + (chk t).1 : Nat) : Int) = (s.size : Int) + ((chk t).1 : Int) by omega]
end Go.Proofs.YtpmkapamlhnmpaaGreatDoor
end
section
namespace Go.Proofs.YtpmkapamlhnmpaaGreatDoor
open Go.RowKit
def opn : List UInt8 := [60, 97, 62]
theorem toks_pre (x : List UInt8) (T : TokD) (n : Int) (hx : toksP (ofBytes x) = ([T], n, 0)) (hT : T.kind ≠ 3) (t : List UInt8) (hb : hasP (ofBytes t).data.toList 0 [239, 187, 191] = false) (l : List TokD) (m : Int) (ht : toksP (ofBytes t) = (l, m, 0)) :
    toksP (ofBytes (x ++ t)) = (T :: l.map (shT x.length), (x.length : Int) + m, 0) := by
  rw [ofBytes_app]
  have h := toks_conc (ofBytes x) (ofBytes t) (by rw [hx]) (by rw [hx]; simp) (by rw [hx]; intro y hy; simp at hy; rw [← hy]; exact hT) hb
  rw [h, hx, ht, ofBytes_size]
  unfold shG
  rw [if_pos rfl]
  rfl
theorem addKid_nm (c n : NodeD) : (addKid c n).nm = n.nm := by cases n; rfl
theorem parse_of (s : ByteArray) (l : List TokD) (n : Int) (h : toksP s = (l, n, 0)) : parseP s = if (runM mac0 l).2.2 ≠ 0 then (zeroN, (runM mac0 l).2.1, (runM mac0 l).2.2)
    else match (runM mac0 l).1.up, (runM mac0 l).1.top.kids with
      | [], k :: _ => (k, (s.size : Int), 0)
      | _, _ => (zeroN, (s.size : Int), 8) := by
  unfold parseP
  rw [h, if_neg (fun h => h rfl)]
  rfl
end Go.Proofs.YtpmkapamlhnmpaaGreatDoor
end
section
namespace Go.Proofs.YtpmkapamlhnmpaaGreatDoor
open Go.RowKit
mutual
def shN (d : Nat) : NodeD → NodeD
  | .mk k s n al kids tx a => .mk k s n (al.map (shA d)) (shNs d kids) tx ((d : Int) + a)
def shNs (d : Nat) : List NodeD → List NodeD
  | [] => []
  | k :: r => shN d k :: shNs d r
end
theorem shNs_app (d : Nat) : ∀ a b : List NodeD, shNs d (a ++ b) = shNs d a ++ shNs d b
  | [], b => by rw [shNs]; rfl
  | k :: r, b => by rw [List.cons_append, shNs, shNs, shNs_app d r b]; rfl
theorem shN_add (d : Nat) (k n : NodeD) : shN d (addKid k n) = addKid (shN d k) (shN d n) := by
  cases n
  rw [addKid, shN, shN, addKid, shNs_app, shNs, shNs]
theorem shN_nm (d : Nat) (n : NodeD) : (shN d n).nm = n.nm := by cases n; rw [shN]; rfl
theorem shN_at (d : Nat) (n : NodeD) : (shN d n).at' = (d : Int) + n.at' := by cases n; rw [shN]; rfl
theorem shN_elem (d : Nat) (t : TokD) : shN d (elemN t []) = elemN (shT d t) [] := by unfold elemN; rw [shN, shNs]; rfl
theorem shN_char (d : Nat) (l : List UInt8) (a : Int) : shN d (charK l a) = charK l ((d : Int) + a) := by unfold charK; rw [shN, shNs]; rfl
theorem allEq_sh (d : Nat) : ∀ l : List AttrD, allEq false l (l.map (shA d)) = true
  | [] => rfl
  | x :: r => by
    rw [List.map_cons, allEq, allEq_sh d r, Bool.and_true]
    exact decide_eq_true ⟨rfl, rfl, rfl, fun h => by cases h⟩
theorem shNs_len (d : Nat) : ∀ l : List NodeD, (shNs d l).length = l.length
  | [] => by rw [shNs]
  | k :: r => by rw [shNs, List.length_cons, shNs_len d r, List.length_cons]
mutual
theorem eqB_sh (d : Nat) : ∀ n : NodeD, n.eqB false (shN d n) = true
  | .mk k s n al kids tx a => by
    rw [NodeD.eqB, shN]
    have h1 : headEq false (.mk k s n al kids tx a) (.mk k s n (al.map (shA d)) (shNs d kids) tx ((d : Int) + a)) = true := decide_eq_true ⟨rfl, rfl, rfl, rfl, (fun h => by cases h), by show al.length = (al.map (shA d)).length; rw [List.length_map], by show kids.length = (shNs d kids).length; rw [shNs_len]⟩
    rw [h1, Bool.true_and]
    show (allEq false al (al.map (shA d)) && eqsB false kids (shNs d kids)) = true
    rw [allEq_sh, eqsB_sh d kids]
    rfl
theorem eqsB_sh (d : Nat) : ∀ l : List NodeD, eqsB false l (shNs d l) = true
  | [] => by rw [shNs]; rfl
  | k :: r => by rw [shNs, eqsB, eqB_sh d k, eqsB_sh d r]; rfl
end
theorem depths_snoc (k : NodeD) : ∀ (l : List NodeD) (m : Nat), depths (l ++ [k]) m = max (depths l m) k.depth
  | [], m => rfl
  | x :: r, m => by rw [List.cons_append, depths, depths, depths_snoc k r]
theorem depth_add (k n : NodeD) (h : n.kind = 0) : (addKid k n).depth = max n.depth (k.depth + 1) := by
  rw [depth_eq (addKid k n), depth_eq n, addKid_is', h, if_neg (by decide), if_neg (by decide), addKid_kids, depths_snoc]
  omega
def closeU (a : NodeD) : List NodeD → NodeD
  | [] => a
  | f :: r => closeU (addKid a f) r
theorem close_mono : ∀ (up : List NodeD) (a b : NodeD), (∀ f ∈ up, f.kind = 0) → a.depth ≤ b.depth → (closeU a up).depth ≤ (closeU b up).depth
  | [], _, _, _, h => h
  | f :: r, a, b, hk, h => by
    rw [closeU, closeU]
    refine close_mono r _ _ (fun x hx => hk x (List.mem_cons_of_mem _ hx)) ?_
    rw [depth_add a f (hk f (List.mem_cons_self ..)), depth_add b f (hk f (List.mem_cons_self ..))]
    omega
theorem close_ge : ∀ (up : List NodeD) (a : NodeD), (∀ f ∈ up, f.kind = 0) → a.depth + up.length ≤ (closeU a up).depth
  | [], a, _ => Nat.le_refl _
  | f :: r, a, hk => by
    rw [closeU, List.length_cons]
    have h := close_ge r (addKid a f) fun x hx => hk x (List.mem_cons_of_mem _ hx)
    rw [depth_add a f (hk f (List.mem_cons_self ..))] at h
    omega
def Ks (m : Mac) : Prop := m.top.kind = 0 ∧ ∀ f ∈ m.up, f.kind = 0
theorem flush_depth (m : Mac) (h : Ks m) : m.top.depth ≤ (flushM m).top.depth ∧ Ks (flushM m) := by
  unfold flushM
  split
  · exact ⟨Nat.le_refl _, h⟩
  · refine ⟨?_, ?_, h.2⟩
    · show _ ≤ (addKid _ m.top).depth
      rw [depth_add _ _ h.1]
      omega
    · exact (addKid_is' _ _).trans h.1
theorem ks_add (m : Mac) (t : TokD) (h : Ks m) : Ks (addM m t).1 ∧ (closeU m.top m.up).depth ≤ (closeU (addM m t).1.top (addM m t).1.up).depth ∧ (t.kind = 1 → (addM m t).2 = 0 → m.up.length + 2 ≤ (closeU (addM m t).1.top (addM m t).1.up).depth) := by
  obtain ⟨hd, hf⟩ := flush_depth m h
  have hfu := flushM_up m
  have hek : (elemN t []).kind = 0 := rfl
  have hed : (elemN t []).depth = 1 := by rw [depth_eq, hek, if_neg (by decide)]; rfl
  have hM : (closeU m.top m.up).depth ≤ (closeU (addKid (elemN t []) (flushM m).top) m.up).depth := close_mono _ _ _ h.2 (by rw [depth_add _ _ hf.1]; omega)
  have hL : m.up.length + 2 ≤ (closeU (addKid (elemN t []) (flushM m).top) m.up).depth := by
    have := close_ge m.up (addKid (elemN t []) (flushM m).top) h.2
    rw [depth_add _ _ hf.1, hed] at this
    omega
  unfold addM
  split
  · rename_i hk
    unfold startM
    split
    · exact ⟨h, Nat.le_refl _, fun _ q => absurd (show _ = (0 : Int) from q) (by simp)⟩
    · split
      · exact ⟨h, Nat.le_refl _, fun _ q => absurd (show _ = (0 : Int) from q) (by simp)⟩
      · split
        · refine ⟨⟨(addKid_is' _ _).trans hf.1, hf.2⟩, ?_, fun _ _ => ?_⟩
          · show _ ≤ (closeU (addKid (elemN t []) (flushM m).top) (flushM m).up).depth
            rw [hfu]
            exact hM
          · show _ ≤ (closeU (addKid (elemN t []) (flushM m).top) (flushM m).up).depth
            rw [hfu]
            exact hL
        · refine ⟨⟨hek, fun f hh => ?_⟩, ?_, fun _ _ => ?_⟩
          · rcases List.mem_cons.1 hh with rfl | hh
            · exact hf.1
            · exact hf.2 f hh
          · show _ ≤ (closeU (addKid (elemN t []) (flushM m).top) (flushM m).up).depth
            rw [hfu]
            exact hM
          · show _ ≤ (closeU (addKid (elemN t []) (flushM m).top) (flushM m).up).depth
            rw [hfu]
            exact hL
  · rename_i hk1
    split
    · unfold endM
      split
      · exact ⟨h, Nat.le_refl _, fun q => absurd q hk1⟩
      · split
        · exact ⟨h, Nat.le_refl _, fun q => absurd q hk1⟩
        · have hc : (closeU m.top m.up).depth ≤ (closeU (flushM m).top m.up).depth := close_mono _ _ _ h.2 hd
          refine ⟨?_, ?_, fun q => absurd q hk1⟩
          · show Ks (popM (flushM m))
            unfold popM
            split
            · exact hf
            · rename_i f r hu
              exact ⟨(addKid_is' _ _).trans (hf.2 f (by rw [hu]; exact List.mem_cons_self ..)), fun x hx => hf.2 x (by rw [hu]; exact List.mem_cons_of_mem _ hx)⟩
          · show _ ≤ (closeU (popM (flushM m)).top (popM (flushM m)).up).depth
            refine Nat.le_trans hc ?_
            rw [← hfu]
            unfold popM
            split
            · exact Nat.le_refl _
            · rename_i f r hu
              rw [hu, closeU]
              exact Nat.le_refl _
    · unfold textM
      split
      · split
        · exact ⟨h, Nat.le_refl _, fun q => absurd q hk1⟩
        · exact ⟨h, Nat.le_refl _, fun q => absurd q hk1⟩
      · exact ⟨h, Nat.le_refl _, fun q => absurd q hk1⟩
theorem run_depth : ∀ (l : List TokD) (m : Mac), Ks m → (closeU m.top m.up).depth ≤ (closeU (runM m l).1.top (runM m l).1.up).depth
  | [], m, _ => Nat.le_refl _
  | t :: r, m, h => by
    obtain ⟨h1, h2, _⟩ := ks_add m t h
    rw [runM]
    split
    · exact h2
    · exact Nat.le_trans h2 (run_depth r _ h1)
theorem runM_snoc (t : TokD) : ∀ (l : List TokD) (m : Mac), (runM m l).2.2 = 0 → runM m (l ++ [t]) = if (addM (runM m l).1 t).2 ≠ 0 then ((addM (runM m l).1 t).1, t.at', (addM (runM m l).1 t).2) else ((addM (runM m l).1 t).1, 0, 0)
  | [], m, _ => by
    show runM m [t] = _
    rw [runM]
    rfl
  | x :: r, m, h => by
    rw [runM] at h
    rw [List.cons_append, runM, runM]
    split
    · rename_i hq
      rw [if_pos hq] at h
      exact absurd h hq
    · rename_i hq
      rw [if_neg hq] at h
      exact runM_snoc t r _ h
theorem shT_kind (d : Nat) (t : TokD) : (shT d t).kind = t.kind := rfl
theorem shT_nm (d : Nat) (t : TokD) : (shT d t).nm = t.nm := rfl
theorem shT_em (d : Nat) (t : TokD) : (shT d t).em = t.em := rfl
def botAt (top : NodeD) (U : List NodeD) : Int := match U.getLast? with
  | none => top.at'
  | some f => f.at'
theorem addKid_at (k n : NodeD) : (addKid k n).at' = n.at' := by cases n; rfl
theorem bot_add (k n : NodeD) (U : List NodeD) : botAt (addKid k n) U = botAt n U := by
  unfold botAt
  cases U.getLast? with
  | none => exact addKid_at k n
  | some f => rfl
theorem bot_cons (e f : NodeD) (U : List NodeD) : botAt e (f :: U) = botAt f U := by
  unfold botAt
  rw [List.getLast?_cons]
  cases U.getLast? <;> rfl
def P1 (d : Nat) (T : TokD) (A : Int) (m M : Mac) : Prop := ∃ U, m.up = U ++ [zeroN] ∧ M.up = shNs d U ++ [elemN T [], zeroN] ∧ M.top = shN d m.top ∧ M.data = m.data ∧ (m.data ≠ [] → M.dat = (d : Int) + m.dat) ∧ botAt m.top U = A
def P2 (d : Nat) (T : TokD) (m M : Mac) (root : NodeD) : Prop := m.up = [] ∧ m.top.kids = [root] ∧ M.up = [zeroN] ∧ M.top = elemN T [shN d root]
theorem P1.flush {d : Nat} {T : TokD} {A : Int} {m M : Mac} (h : P1 d T A m M) : P1 d T A (flushM m) (flushM M) ∧ (flushM m).data = [] := by
  obtain ⟨U, h1, h2, h3, h4, h5, h6⟩ := h
  refine ⟨?_, flushM_data m⟩
  unfold flushM
  by_cases hd : m.data = []
  · rw [if_pos hd, if_pos (h4.trans hd)]
    exact ⟨U, h1, h2, h3, h4, h5, h6⟩
  · rw [if_neg hd, if_neg (by rw [h4]; exact hd)]
    refine ⟨U, h1, h2, ?_, rfl, fun q => absurd rfl q, (bot_add _ _ _).trans h6⟩
    show addKid (charK M.data M.dat) M.top = shN d (addKid (charK m.data m.dat) m.top)
    rw [shN_add, shN_char, h3, h4, h5 hd]
theorem P1.next {d : Nat} {T : TokD} {A : Int} {m M : Mac} (h : P1 d T A m M) (t : TokD) (hk : t.kind = 1 ∨ t.kind = 2 ∨ t.kind = 3) (ht : (addM m t).2 = 0) (hd : t.kind = 1 → m.up.length + 2 ≤ 100) : (addM M (shT d t)).2 = 0 ∧ (P1 d T A (addM m t).1 (addM M (shT d t)).1 ∨ ∃ root, P2 d T (addM m t).1 (addM M (shT d t)).1 root ∧ root.at' = A) := by
  obtain ⟨⟨V, g1, g2, g3, g4, g5, g6⟩, gd⟩ := h.flush
  obtain ⟨U, h1, h2, h3, h4, h5, h6⟩ := h
  have hmu : m.up ≠ [] := by rw [h1]; simp
  have hMu : M.up ≠ [] := by rw [h2]; simp
  have hl : M.up.length = m.up.length + 1 := by rw [h1, h2, List.length_append, List.length_append, shNs_len]; rfl
  have hgM : (flushM M).data = [] := flushM_data M
  rcases hk with hk | hk | hk
  · have e1 : ∀ x : TokD, x.kind = 1 → ∀ y : Mac, addM y x = startM y x := fun x hx y => by unfold addM; rw [if_pos hx]
    rw [e1 t hk] at ht ⊢
    rw [e1 _ ((shT_kind d t).trans hk)]
    have e2 : ¬ (m.up = [] ∧ m.top.kids ≠ []) := fun q => hmu q.1
    have e3 : ¬ (M.up = [] ∧ M.top.kids ≠ []) := fun q => hMu q.1
    have hd' := hd hk
    unfold startM at ht ⊢
    have e4 : ¬ 100 < m.up.length + 1 := by omega
    have e5 : ¬ 100 < M.up.length + 1 := by omega
    rw [if_neg e2, if_neg e4] at ht ⊢
    rw [if_neg e3, if_neg e5, shT_em]
    by_cases he : t.em = true
    · rw [if_pos he, if_pos he]
      refine ⟨rfl, .inl ⟨V, g1, g2, ?_, g4, g5, (bot_add _ _ _).trans g6⟩⟩
      show addKid (elemN (shT d t) []) (flushM M).top = shN d (addKid (elemN t []) (flushM m).top)
      rw [shN_add, shN_elem, g3]
    · rw [if_neg he, if_neg he]
      refine ⟨rfl, .inl ⟨(flushM m).top :: V, ?_, ?_, ?_, g4, g5, (bot_cons _ _ _).trans g6⟩⟩
      · show (flushM m).top :: (flushM m).up = _
        rw [g1]
        rfl
      · show (flushM M).top :: (flushM M).up = _
        rw [g2, g3, shNs]
        rfl
      · exact (shN_elem d t).symm
  · have e1 : ∀ x : TokD, x.kind = 2 → ∀ y : Mac, addM y x = endM y x := fun x hx y => by unfold addM; rw [if_neg (by rw [hx]; decide), if_pos hx]
    rw [e1 t hk] at ht ⊢
    rw [e1 _ ((shT_kind d t).trans hk)]
    unfold endM at ht ⊢
    rw [if_neg hmu] at ht ⊢
    rw [if_neg hMu, h3, shN_nm, shT_nm]
    by_cases hn : m.top.nm ≠ ofBytes t.nm
    · rw [if_pos hn] at ht
      exact absurd ht (by simp)
    · rw [if_neg hn, if_neg hn]
      refine ⟨rfl, ?_⟩
      show P1 d T A (popM (flushM m)) (popM (flushM M)) ∨ _
      cases V with
      | nil =>
        right
        have q1 : (flushM m).up = [zeroN] := g1
        have q2 : (flushM M).up = [elemN T [], zeroN] := by rw [g2, shNs]; rfl
        refine ⟨(flushM m).top, ⟨?_, ?_, ?_, ?_⟩, g6⟩
        · show (popM (flushM m)).up = []
          unfold popM; rw [q1]
        · show (popM (flushM m)).top.kids = _
          unfold popM; rw [q1]
          show (addKid (flushM m).top zeroN).kids = _
          rw [addKid_kids]
          rfl
        · show (popM (flushM M)).up = _
          unfold popM; rw [q2]
        · show (popM (flushM M)).top = _
          unfold popM; rw [q2]
          show addKid (flushM M).top (elemN T []) = _
          rw [g3]
          rfl
      | cons f V =>
        left
        have q1 : (flushM m).up = f :: (V ++ [zeroN]) := g1
        have q2 : (flushM M).up = shN d f :: (shNs d V ++ [elemN T [], zeroN]) := by rw [g2, shNs]; rfl
        refine ⟨V, ?_, ?_, ?_, ?_, ?_, ?_⟩
        · unfold popM; rw [q1]
        · unfold popM; rw [q2]
        · unfold popM; rw [q1, q2]
          show addKid (flushM M).top (shN d f) = shN d (addKid (flushM m).top f)
          rw [shN_add, g3]
        · unfold popM; rw [q1, q2]; exact g4
        · unfold popM; rw [q1, q2]; exact g5
        · unfold popM; rw [q1]
          show botAt (addKid (flushM m).top f) V = A
          rw [bot_add, ← bot_cons (flushM m).top]
          exact g6
  · have e1 : ∀ x : TokD, x.kind = 3 → ∀ y : Mac, addM y x = textM y x := fun x hx y => by unfold addM; rw [if_neg (by rw [hx]; decide), if_neg (by rw [hx]; decide)]
    rw [e1 t hk] at ht ⊢
    rw [e1 _ ((shT_kind d t).trans hk)]
    unfold textM
    rw [if_neg hmu, if_neg hMu]
    refine ⟨rfl, .inl ⟨U, h1, h2, h3, ?_, fun _ => ?_, h6⟩⟩
    · show M.data ++ t.tx = m.data ++ t.tx
      rw [h4]
    · show (if M.data = [] then (shT d t).at' else M.dat) = (d : Int) + (if m.data = [] then t.at' else m.dat)
      by_cases hq : m.data = []
      · rw [if_pos hq, if_pos (h4.trans hq)]
        rfl
      · rw [if_neg hq, if_neg (by rw [h4]; exact hq), h5 hq]
theorem P2.run {d : Nat} {T : TokD} {root : NodeD} : ∀ (l : List TokD) (m M : Mac), P2 d T m M root → (∀ t ∈ l, t.kind = 1 ∨ t.kind = 2 ∨ t.kind = 3) → (runM m l).2.2 = 0 → P2 d T (runM m l).1 (runM M (l.map (shT d))).1 root ∧ (runM M (l.map (shT d))).2.2 = 0
  | [], m, M, h, _, _ => ⟨h, rfl⟩
  | t :: r, m, M, h, hk, h0 => by
    obtain ⟨h1, h2, h3, h4⟩ := h
    have hkt := hk t (List.mem_cons_self ..)
    rw [runM] at h0
    have ht : (addM m t).2 = 0 := by
      by_cases q : (addM m t).2 = 0
      · exact q
      · rw [if_pos q] at h0
        exact absurd h0 q
    rw [if_neg (fun q => q ht)] at h0
    have hst : (addM m t).1 = m ∧ (addM M (shT d t)).2 = 0 ∧ P2 d T m (addM M (shT d t)).1 root := by
      rcases hkt with hk | hk | hk
      · exfalso
        unfold addM at ht
        rw [if_pos hk, startM, if_pos ⟨h1, by rw [h2]; simp⟩] at ht
        exact absurd ht (by simp)
      · exfalso
        unfold addM at ht
        rw [if_neg (by rw [hk]; decide), if_pos hk, endM, if_pos h1] at ht
        exact absurd ht (by simp)
      · have e1 : ∀ x : TokD, x.kind = 3 → ∀ y : Mac, addM y x = textM y x := fun x hx y => by unfold addM; rw [if_neg (by rw [hx]; decide), if_neg (by rw [hx]; decide)]
        rw [e1 t hk] at ht ⊢
        rw [e1 _ ((shT_kind d t).trans hk)]
        unfold textM at ht ⊢
        have e3 : ¬ M.up = [] := by rw [h3]; simp
        rw [if_pos h1] at ht ⊢
        rw [if_neg e3]
        refine ⟨?_, rfl, h1, h2, h3, h4⟩
        split <;> rfl
    rw [runM, if_neg (fun q => q ht), hst.1, List.map_cons, runM, if_neg (fun q => q hst.2.1)]
    rw [hst.1] at h0
    exact P2.run r m _ hst.2.2 (fun x hx => hk x (List.mem_cons_of_mem _ hx)) h0
theorem P1.run {d : Nat} {T : TokD} {A : Int} : ∀ (l : List TokD) (m M : Mac), P1 d T A m M → Ks m → (∀ t ∈ l, t.kind = 1 ∨ t.kind = 2 ∨ t.kind = 3) → (runM m l).2.2 = 0 → (runM m l).1.up = [] → (runM m l).1.top.depth ≤ 100 → ∃ root, P2 d T (runM m l).1 (runM M (l.map (shT d))).1 root ∧ (runM M (l.map (shT d))).2.2 = 0 ∧ root.at' = A
  | [], m, M, h, _, _, _, hu, _ => by
    obtain ⟨U, h1, _⟩ := h
    rw [show (runM m []).1 = m from rfl] at hu
    rw [hu] at h1
    simp at h1
  | t :: r, m, M, h, hK, hk, h0, hu, hd => by
    have hkt := hk t (List.mem_cons_self ..)
    obtain ⟨k1, k2, k3⟩ := ks_add m t hK
    rw [runM] at h0 hu hd
    have ht : (addM m t).2 = 0 := by
      by_cases q : (addM m t).2 = 0
      · exact q
      · rw [if_pos q] at h0
        exact absurd h0 q
    rw [if_neg (fun q => q ht)] at h0 hu hd
    have hr := run_depth r _ k1
    rw [hu] at hr
    have hr2 : (closeU (addM m t).1.top (addM m t).1.up).depth ≤ 100 := Nat.le_trans hr hd
    obtain ⟨n0, nx⟩ := h.next t hkt ht (fun q => Nat.le_trans (k3 q ht) hr2)
    rw [runM, if_neg (fun q => q ht), List.map_cons, runM, if_neg (fun q => q n0)]
    rcases nx with hP | ⟨root, hP, hA⟩
    · exact P1.run r _ _ hP k1 (fun x hx => hk x (List.mem_cons_of_mem _ hx)) h0 hu hd
    · obtain ⟨r1, r2⟩ := P2.run r _ _ hP (fun x hx => hk x (List.mem_cons_of_mem _ hx)) h0
      exact ⟨root, r1, r2, hA⟩
theorem tokGo_acc (s : ByteArray) : ∀ f a acc, (tokGo s f a acc).2.2 = 0 → ∃ r, (tokGo s f a acc).1 = acc ++ r
  | 0, _, acc, _ => ⟨[], (List.append_nil _).symm⟩
  | f + 1, a, acc, h => by
    rw [tokGo] at h ⊢
    by_cases hlt : a < s.size
    · rw [if_pos hlt] at h ⊢
      by_cases hc : (consP s a).2.2 = 0
      · rw [if_neg (c := (consP s a).2.2 ≠ 0) (fun q => q hc)] at h ⊢
        obtain ⟨r, hr⟩ := tokGo_acc s f _ _ h
        rw [hr]
        split
        · exact ⟨[(consP s a).1] ++ r, by rw [List.append_assoc]⟩
        · exact ⟨r, rfl⟩
      · rw [if_pos (c := (consP s a).2.2 ≠ 0) hc] at h
        exact absurd h hc
    · rw [if_neg hlt]
      exact ⟨[], (List.append_nil _).symm⟩
theorem hasP_cut {l : List UInt8} {a b : UInt8} {x : List UInt8} (h : hasP l 0 [a, b] = false) : hasP l 0 (a :: b :: x) = false := by
  cases q : hasP l 0 (a :: b :: x) with
  | false => rfl
  | true =>
    exfalso
    unfold hasP at q h
    rw [Bool.and_eq_true] at q
    rw [q.1, Bool.true_and] at h
    obtain ⟨y, hy⟩ := List.isPrefixOf_iff_prefix.1 q.2
    rw [← hy] at h
    simp at h
theorem toks_head (s : ByteArray) (h1 : hasP s.data.toList 0 [60] = true) (h2 : hasP s.data.toList 0 [60, 33] = false) (h3 : hasP s.data.toList 0 [60, 63] = false) (he : (toksP s).2.2 = 0) : ∃ t r, (toksP s).1 = t :: r ∧ t.at' = 0 ∧ t.kind ≠ 3 := by
  have hlen : 0 < s.size := by
    have := hasP_len (i := 0) h1 (by decide)
    rw [bsl] at this
    simp at this
    omega
  have hb : hasP s.data.toList 0 [239, 187, 191] = false := by
    obtain ⟨c, r, hcr⟩ := List.exists_cons_of_ne_nil (show s.data.toList ≠ [] by intro q; rw [← bsl, q] at hlen; simp at hlen)
    rw [hcr] at h1 ⊢
    unfold hasP at h1 ⊢
    rw [Bool.and_eq_true] at h1
    have h4 := h1.2
    simp at h4
    subst h4
    rfl
  unfold toksP at he ⊢
  by_cases hc : (chk s).2 ≠ 0
  · rw [if_pos hc] at he
    simp only at he
    exact absurd (by omega) hc
  · rw [if_neg hc, hb, if_neg (by decide), tokGo, if_pos hlen] at he ⊢
    by_cases h0 : (consP s 0).2.2 = 0
    · rw [if_neg (c := (consP s 0).2.2 ≠ 0) (fun q => q h0)] at he ⊢
      have hk : (consP s 0).1.at' = 0 ∧ (consP s 0).1.kind ≠ 3 := by
        unfold consP
        have e0 : ((0 : Nat) : Int) = 0 := rfl
        rw [e0, h3, if_neg (by decide), hasP_cut h2, if_neg (by decide), hasP_cut h2, if_neg (by decide), hasP_cut h2, if_neg (by decide), h2, if_neg (by decide)]
        split
        · exact ⟨rfl, by show ¬ (2 : Int) = 3; decide⟩
        · first | rw [h1, if_pos rfl] | skip
          exact ⟨rfl, by show ¬ (1 : Int) = 3; decide⟩
      rw [if_pos (.inl hk.2)] at he ⊢
      obtain ⟨r, hr⟩ := tokGo_acc s _ _ _ he
      rw [hr]
      exact ⟨(consP s 0).1, r, rfl, hk⟩
    · rw [if_pos (c := (consP s 0).2.2 ≠ 0) h0] at he
      exact absurd he h0
def wrpB : List UInt8 := [60, 119, 114, 97, 112, 62]
def wrpE : List UInt8 := [60, 47, 119, 114, 97, 112, 62]
def wrpT : TokD := ⟨1, [119, 114, 97, 112], [], false, [], 0⟩
def wrpU : TokD := ⟨2, [119, 114, 97, 112], [], false, [], 0⟩
theorem toks_wrpB : toksP (ofBytes wrpB) = ([wrpT], 6, 0) := by kernel_rfl
theorem toks_wrpE : toksP (ofBytes wrpE) = ([wrpU], 7, 0) := by kernel_rfl
theorem parse_good (s : ByteArray) (n : NodeD) (z : Int) (h : parseP s = (n, z, 0)) : (toksP s).2.2 = 0 ∧ (runM mac0 (toksP s).1).2.2 = 0 ∧ (runM mac0 (toksP s).1).1.up = [] ∧ ∃ r, (runM mac0 (toksP s).1).1.top.kids = n :: r := by
  unfold parseP at h
  by_cases h0 : (toksP s).2.2 = 0
  · rw [if_neg (c := (toksP s).2.2 ≠ 0) (fun q => q h0)] at h
    by_cases h1 : (runM mac0 (toksP s).1).2.2 = 0
    · rw [if_neg (c := (runM mac0 (toksP s).1).2.2 ≠ 0) (fun q => q h1)] at h
      split at h
      · rename_i k r hu hk
        refine ⟨h0, h1, hu, r, ?_⟩
        rw [hk]
        injection h with h2
        rw [h2]
      · injection h with _ h2
        injection h2 with _ h3
        exact absurd h3 (by decide)
    · rw [if_pos (c := (runM mac0 (toksP s).1).2.2 ≠ 0) h1] at h
      injection h with _ h2
      injection h2 with _ h3
      exact absurd h3 h1
  · rw [if_pos (c := (toksP s).2.2 ≠ 0) h0] at h
    injection h with _ h2
    injection h2 with _ h3
    exact absurd h3 h0
theorem last_blank (l : List TokD) (hk : ∀ t ∈ l, t.kind = 1 ∨ t.kind = 2 ∨ t.kind = 3) (h0 : (runM mac0 l).2.2 = 0) (hu : (runM mac0 l).1.up = []) : ∀ x, l.getLast? = some x → x.kind = 3 → (62 : UInt8) ∉ x.tx := by
  intro x hx hx3
  obtain ⟨r, rfl⟩ : ∃ r, l = r ++ [x] := ⟨l.dropLast, by
    have h1 : l ≠ [] := by intro q; rw [q] at hx; simp at hx
    rw [List.getLast?_eq_some_getLast h1] at hx
    rw [← Option.some.inj hx]
    exact (List.dropLast_concat_getLast h1).symm⟩
  have hr : (runM mac0 r).2.2 = 0 := by
    have key : ∀ (a : List TokD) (m : Mac), (runM m (a ++ [x])).2.2 = 0 → (runM m a).2.2 = 0 := by
      intro a
      induction a with
      | nil => intro m _; rfl
      | cons t a ih =>
        intro m h
        rw [List.cons_append, runM] at h
        rw [runM]
        split
        · rename_i q
          rw [if_pos q] at h
          exact absurd h q
        · rename_i q
          rw [if_neg q] at h
          exact ih _ h
    exact key r mac0 h0
  rw [runM_snoc x r mac0 hr] at h0 hu
  have e1 : addM (runM mac0 r).1 x = textM (runM mac0 r).1 x := by unfold addM; rw [if_neg (by rw [hx3]; decide), if_neg (by rw [hx3]; decide)]
  rw [e1] at h0 hu
  by_cases hq : (textM (runM mac0 r).1 x).2 = 0
  · rw [if_neg (c := (textM (runM mac0 r).1 x).2 ≠ 0) (fun q => q hq)] at hu
    unfold textM at hq hu
    by_cases hup : (runM mac0 r).1.up = []
    · rw [if_pos hup] at hq
      by_cases hc : collapse x.tx = []
      · have hb := (colGo_blank x.tx false).1 hc
        intro hm
        unfold blankB at hb
        exact absurd (List.all_eq_true.1 hb _ hm) (by decide)
      · rw [if_neg hc] at hq
        exact absurd hq (by simp)
    · rw [if_neg hup] at hu
      exact absurd hu hup
  · rw [if_pos (c := (textM (runM mac0 r).1 x).2 ≠ 0) hq] at h0
    exact absurd h0 hq
def One (m : Mac) : Prop := match m.up.getLast? with
  | none => m.top.kids.length ≤ 1
  | some f => f.kids = []
theorem one_nil {m : Mac} (h : One m) (hu : m.up = []) : m.top.kids.length ≤ 1 := by
  unfold One at h
  rw [hu] at h
  exact h
theorem one_next {m : Mac} (h : One m) (hd : m.up = [] → m.data = []) (t : TokD) : One (addM m t).1 := by
  have hfu := flushM_up m
  have hf0 : m.up = [] → flushM m = m := fun q => by unfold flushM; rw [if_pos (hd q)]
  unfold addM
  split
  · unfold startM
    split
    · exact h
    · rename_i hr
      split
      · exact h
      · split
        · unfold One
          show match (flushM m).up.getLast? with | none => (addKid (elemN t []) (flushM m).top).kids.length ≤ 1 | some f => f.kids = []
          rw [hfu]
          unfold One at h
          cases hu : m.up with
          | nil =>
            have : m.top.kids = [] := Classical.byContradiction fun q => hr ⟨hu, q⟩
            rw [hf0 hu, addKid_kids, this]
            exact Nat.le_refl _
          | cons f r =>
            rw [hu, List.getLast?_cons] at h
            rw [List.getLast?_cons]
            exact h
        · unfold One
          show match ((flushM m).top :: (flushM m).up).getLast? with | none => (elemN t []).kids.length ≤ 1 | some f => f.kids = []
          rw [hfu]
          unfold One at h
          cases hu : m.up with
          | nil =>
            have : m.top.kids = [] := Classical.byContradiction fun q => hr ⟨hu, q⟩
            rw [hf0 hu]
            exact this
          | cons f r =>
            rw [hu] at h
            rw [List.getLast?_cons, List.getLast?_cons]
            rw [List.getLast?_cons] at h
            exact h
  · split
    · unfold endM
      split
      · exact h
      · split
        · exact h
        · unfold One at h
          show One (popM (flushM m))
          unfold popM One
          cases hu : m.up with
          | nil => rename_i q _; exact absurd hu q
          | cons f r =>
            rw [hfu, hu]
            rw [hu, List.getLast?_cons] at h
            show match r.getLast? with | none => (addKid (flushM m).top f).kids.length ≤ 1 | some f => f.kids = []
            cases hr : r.getLast? with
            | none =>
              rw [hr] at h
              have : f.kids = [] := h
              rw [addKid_kids, this]
              exact Nat.le_refl _
            | some g =>
              rw [hr] at h
              exact h
    · unfold textM
      split
      · split
        · exact h
        · exact h
      · exact h
theorem one_run : ∀ (l : List TokD) (m : Mac), One m → MOk m → One (runM m l).1
  | [], _, h, _ => h
  | t :: r, m, h, hm => by
    rw [runM]
    split
    · exact one_next h hm.data t
    · exact one_run r _ (one_next h hm.data t) (hm.next t)
theorem run_at0 : ∀ (a : List TokD) (m : Mac), (runM m a).2.2 = 0 → (runM m a).2.1 = 0
  | [], _, _ => rfl
  | t :: a, m, h => by
    rw [runM] at h ⊢
    split
    · rename_i q
      rw [if_pos q] at h
      exact absurd h q
    · rename_i q
      rw [if_neg q] at h
      exact run_at0 a _ h
theorem parse_wrap (s : ByteArray) (n : NodeD) (z : Int) (h : parseP s = (n, z, 0)) (h1 : hasP s.data.toList 0 [60] = true) (h2 : hasP s.data.toList 0 [60, 33] = false) (h3 : hasP s.data.toList 0 [60, 63] = false) (h62 : s.data.toList.getD (s.size - 1) 0 = 62) (hd : n.depth ≤ 99) :
    ∃ c r, parseP (ofBytes wrpB ++ s ++ ofBytes wrpE) = (c, (s.size : Int) + 13, 0) ∧ c.nm = ofBytes [119, 114, 97, 112] ∧ c.kids = shN 6 n :: r ∧ n.at' = 0 := by
  obtain ⟨ht, hr, hu, r0, hk⟩ := parse_good s n z h
  have hT := toksP_tx s
  obtain ⟨t0, l, hl, ha, hn3⟩ := toks_head s h1 h2 h3 ht
  have hkinds : ∀ t ∈ (toksP s).1, t.kind = 1 ∨ t.kind = 2 ∨ t.kind = 3 := fun t q => (hT t q).2.1
  have hlast := last_blank (toksP s).1 hkinds hr hu
  have hcc := toks_concB s (ofBytes wrpE) h62 ht (by rw [hl]; simp) hlast (by kernel_rfl)
  rw [toks_wrpE] at hcc
  unfold shG at hcc
  rw [if_pos rfl] at hcc
  have hb0 : hasP (ofBytes (s.data.toList ++ wrpE)).data.toList 0 [239, 187, 191] = false := by
    rw [ofBytes_list]
    obtain ⟨c, r, hcr⟩ := List.exists_cons_of_ne_nil (show s.data.toList ≠ [] by intro q; rw [q] at h1; revert h1; decide)
    rw [hcr] at h1 ⊢
    unfold hasP at h1 ⊢
    rw [Bool.and_eq_true] at h1
    have h4 := h1.2
    simp at h4
    subst h4
    rfl
  have hse : ofBytes (s.data.toList ++ wrpE) = s ++ ofBytes wrpE := by rw [ofBytes_app, ofBytes_data]
  have hp := toks_pre wrpB wrpT 6 toks_wrpB (by show ¬ (1 : Int) = 3; decide) (s.data.toList ++ wrpE) hb0 _ _ (by rw [hse]; exact hcc)
  have hwe : ofBytes (wrpB ++ (s.data.toList ++ wrpE)) = ofBytes wrpB ++ s ++ ofBytes wrpE := by rw [ofBytes_app, hse, ByteArray.append_assoc]
  rw [hwe] at hp
  rw [show wrpB.length = 6 from rfl] at hp
  have hmk : Ks mac0 := ⟨rfl, fun f hf => by cases hf⟩
  -- the run of the document, and within the other element
  have hrun : ∃ M : Mac, runM mac0 (wrpT :: (toksP s).1.map (shT 6)) = (M, 0, 0) ∧ M.up = [zeroN] ∧ M.top = elemN wrpT [shN 6 n] ∧ n.at' = 0 := by
    obtain ⟨M0, hM0⟩ : ∃ M0 : Mac, M0 = ⟨elemN wrpT [], [zeroN], [], 0⟩ := ⟨_, rfl⟩
    have hs0 : addM mac0 wrpT = (M0, 0) := by rw [hM0]; rfl
    have fin : ∀ root : NodeD, P2 6 wrpT (runM mac0 (toksP s).1).1 (runM M0 ((toksP s).1.map (shT 6))).1 root → (runM M0 ((toksP s).1.map (shT 6))).2.2 = 0 → root.at' = 0 → ∃ M : Mac, runM mac0 (wrpT :: (toksP s).1.map (shT 6)) = (M, 0, 0) ∧ M.up = [zeroN] ∧ M.top = elemN wrpT [shN 6 n] ∧ n.at' = 0 := by
      rintro root ⟨p1, p2, p3, p4⟩ p5 p6
      rw [hk] at p2
      obtain rfl : n = root := by injection p2
      refine ⟨(runM M0 ((toksP s).1.map (shT 6))).1, ?_, p3, p4, p6⟩
      rw [runM, hs0, if_neg (fun q => q rfl)]
      exact Prod.ext rfl (Prod.ext (run_at0 _ _ p5) p5)
    have hones := one_nil (one_run (toksP s).1 mac0 (show One mac0 from Nat.zero_le _) MOk.start) hu
    have hkk : (runM mac0 (toksP s).1).1.top.kids = [n] := by
      rw [hk] at hones ⊢
      cases r0 with
      | nil => rfl
      | cons x y => simp at hones
    have hkd : (runM mac0 (toksP s).1).1.top.kind = 0 := (MOk.run (toksP s).1 mac0 MOk.start).top.1
    have hfd : (runM mac0 (toksP s).1).1.top.depth ≤ 100 := by
      rw [depth_eq, hkd, if_neg (by decide), hkk, depths, depths]
      omega
    have hk0 := hkinds t0 (by rw [hl]; exact List.mem_cons_self ..)
    have ht0 : (addM mac0 t0).2 = 0 := by
      rw [hl, runM] at hr
      by_cases q : (addM mac0 t0).2 = 0
      · exact q
      · rw [if_pos q] at hr
        exact absurd hr q
    have hkl : ∀ t ∈ l, t.kind = 1 ∨ t.kind = 2 ∨ t.kind = 3 := fun t q => hkinds t (by rw [hl]; exact List.mem_cons_of_mem _ q)
    have e1 : runM mac0 (toksP s).1 = runM (addM mac0 t0).1 l := by rw [hl, runM, if_neg (fun q => q ht0)]
    have e2 : ∀ M1 : Mac, addM M0 (shT 6 t0) = (M1, 0) → runM M0 ((toksP s).1.map (shT 6)) = runM M1 (l.map (shT 6)) := fun M1 q => by rw [hl, List.map_cons, runM, q, if_neg (fun q => q rfl)]
    rw [e1] at hr hu hfd
    rcases hk0 with hk0 | hk0 | hk0
    · by_cases hem : t0.em = true
      · have f1 : addM mac0 t0 = (⟨addKid (elemN t0 []) zeroN, [], [], 0⟩, 0) := by
          unfold addM
          rw [if_pos hk0, startM, if_neg (fun q => q.2 rfl), if_neg (by show ¬ 100 < 0 + 1; decide), if_pos hem]
          rfl
        have f2 : addM M0 (shT 6 t0) = (⟨addKid (elemN (shT 6 t0) []) (elemN wrpT []), [zeroN], [], 0⟩, 0) := by
          rw [hM0]
          unfold addM
          rw [if_pos ((shT_kind 6 t0).trans hk0), startM, if_neg (fun q => by cases q.1), if_neg (by show ¬ 100 < 1 + 1; decide), shT_em, if_pos hem]
          rfl
        rw [f1] at hr
        obtain ⟨r1, r2⟩ := P2.run (d := 6) (T := wrpT) (root := elemN t0 []) l ⟨addKid (elemN t0 []) zeroN, [], [], 0⟩ ⟨addKid (elemN (shT 6 t0) []) (elemN wrpT []), [zeroN], [], 0⟩ ⟨rfl, rfl, rfl, by rw [shN_elem]; rfl⟩ hkl hr
        exact fin (elemN t0 []) (by rw [e1, f1, e2 _ f2]; exact r1) (by rw [e2 _ f2]; exact r2) ha
      · have f1 : addM mac0 t0 = (⟨elemN t0 [], [zeroN], [], 0⟩, 0) := by
          unfold addM
          rw [if_pos hk0, startM, if_neg (fun q => q.2 rfl), if_neg (by show ¬ 100 < 0 + 1; decide), if_neg hem]
          rfl
        have f2 : addM M0 (shT 6 t0) = (⟨elemN (shT 6 t0) [], [elemN wrpT [], zeroN], [], 0⟩, 0) := by
          rw [hM0]
          unfold addM
          rw [if_pos ((shT_kind 6 t0).trans hk0), startM, if_neg (fun q => by cases q.1), if_neg (by show ¬ 100 < 1 + 1; decide), shT_em, if_neg hem]
          rfl
        rw [f1] at hr hu hfd
        obtain ⟨root, r1, r2, r3⟩ := P1.run (d := 6) (T := wrpT) (A := t0.at') l ⟨elemN t0 [], [zeroN], [], 0⟩ ⟨elemN (shT 6 t0) [], [elemN wrpT [], zeroN], [], 0⟩ ⟨[], rfl, by rw [shNs]; rfl, (shN_elem 6 t0).symm, rfl, fun q => absurd rfl q, rfl⟩ ⟨rfl, fun f hf => by rw [List.mem_singleton.1 hf]; rfl⟩ hkl hr hu hfd
        exact fin root (by rw [e1, f1, e2 _ f2]; exact r1) (by rw [e2 _ f2]; exact r2) (r3.trans ha)
    · exfalso
      unfold addM at ht0
      rw [if_neg (by rw [hk0]; decide), if_pos hk0, endM, if_pos (show mac0.up = [] from rfl)] at ht0
      exact absurd ht0 (by simp)
    · exact absurd hk0 hn3
  obtain ⟨M, hrM, hMu, hMt, hn0⟩ := hrun
  -- the end of the other element
  have hend : ∃ c r, runM mac0 (wrpT :: ((toksP s).1 ++ [wrpU].map (shT s.size)).map (shT 6)) = (⟨addKid c zeroN, [], [], (flushM M).dat⟩, 0, 0) ∧ c.nm = ofBytes [119, 114, 97, 112] ∧ c.kids = shN 6 n :: r := by
    rw [List.map_append, ← List.cons_append]
    show ∃ c r, runM mac0 ((wrpT :: (toksP s).1.map (shT 6)) ++ [shT 6 (shT s.size wrpU)]) = _ ∧ _
    rw [runM_snoc _ _ _ (by rw [hrM]), hrM]
    have hMu' : ¬ M.up = [] := by rw [hMu]; simp
    have hnm : ¬ M.top.nm ≠ ofBytes (shT 6 (shT s.size wrpU)).nm := by
      rw [hMt]
      exact fun q => q rfl
    have he : addM M (shT 6 (shT s.size wrpU)) = (popM (flushM M), 0) := by
      unfold addM
      rw [if_neg (by show ¬ (2 : Int) = 1; decide), if_pos (by show (2 : Int) = 2; rfl), endM, if_neg hMu', if_neg hnm]
    simp only
    rw [he, if_neg (fun q => q rfl)]
    have hfu : (flushM M).up = [zeroN] := (flushM_up M).trans hMu
    refine ⟨(flushM M).top, if M.data = [] then [] else [charK M.data M.dat], ?_, ?_, ?_⟩
    · unfold popM
      rw [hfu, ← flushM_data M]
    · unfold flushM
      split
      · rw [hMt]; rfl
      · show (addKid _ M.top).nm = _
        rw [addKid_nm, hMt]; rfl
    · unfold flushM
      split
      · rw [hMt]; rfl
      · show (addKid _ M.top).kids = _
        rw [addKid_kids, hMt]; rfl
  obtain ⟨c, r, hc, hcn, hck⟩ := hend
  refine ⟨c, r, ?_, hcn, hck, hn0⟩
  rw [parse_of _ _ _ hp, hc, if_neg (fun q => q rfl)]
  show (c, ((ofBytes wrpB ++ s ++ ofBytes wrpE).size : Int), (0 : Int)) = _
  rw [ByteArray.size_append, ByteArray.size_append, ofBytes_size, ofBytes_size]
  show (c, ((6 + s.size + 7 : Nat) : Int), (0 : Int)) = _
  rw [show ((6 + s.size + 7 : Nat) : Int) = (s.size : Int) + 13 by omega]
end Go.Proofs.YtpmkapamlhnmpaaGreatDoor
end
section
namespace Go.Proofs.YtpmkapamlhnmpaaGreatDoor
open Go.RowKit
theorem hasP_zero (l x : List UInt8) : hasP l 0 x = x.isPrefixOf l := by unfold hasP; simp
theorem suf_last (s : ByteArray) (h : Lib.hasSuffix s.data.toList [62] = true) : s.data.toList.getD (s.size - 1) 0 = 62 := by
  unfold Lib.hasSuffix at h
  obtain ⟨t, ht⟩ := List.isSuffixOf_iff_suffix.1 h
  rw [← bsl, ← ht, List.length_append, List.getD_eq_getElem?_getD]
  simp
set_option maxRecDepth 100000 in
set_option maxHeartbeats 16000000 in
theorem walk_TreWraps (s : ByteArray) (w : World) (hT : TokT w) : Calls Tryz.prog 7 #[.string s] w fun e w' => e = .returned (.bool true) ∧ Below w.heap.size w w' := by
  have cA : ∀ wx, TokT wx → _ := fun wx ht => tre_alive wx ht
  by_cases hs : s.size ≤ 3000
  · have hsz : (s.size : Int) ≤ 3000 := by omega
    have c2 := fun wx => tref_Parse s wx (by omega)
    have hsm := parse_small s (by omega)
    have hpw := parse_wrap s
    generalize parseP s = R at *
    obtain ⟨n, x1, x2⟩ := R
    simp only at hsm
    by_cases hx : x2 = 0
    · subst hx
      obtain ⟨p1, hp1⟩ : ∃ b, ([60] : List UInt8).isPrefixOf s.data.toList = b := ⟨_, rfl⟩
      obtain ⟨p2, hp2⟩ : ∃ b, ([60, 33] : List UInt8).isPrefixOf s.data.toList = b := ⟨_, rfl⟩
      obtain ⟨p3, hp3⟩ : ∃ b, ([60, 63] : List UInt8).isPrefixOf s.data.toList = b := ⟨_, rfl⟩
      obtain ⟨p4, hp4⟩ : ∃ b, Lib.hasSuffix s.data.toList [62] = b := ⟨_, rfl⟩
      have cP1 := fun wx => esc_HasPrefix s ⟨#[60]⟩ p1 wx hp1
      have cP2 := fun wx => esc_HasPrefix s ⟨#[60, 33]⟩ p2 wx hp2
      have cP3 := fun wx => esc_HasPrefix s ⟨#[60, 63]⟩ p3 wx hp3
      have cS : ∀ wx, Calls Tryz.prog 24 #[.string s, .string ⟨#[62]⟩] wx fun e w' => e = .returned (.bool p4) ∧ w' = wx := fun wx => by
        have := Tryz.strings_HasSuffix s ⟨#[62]⟩ wx (by omega)
        rw [show (⟨#[62]⟩ : ByteArray).data.toList = [62] from rfl, hp4] at this
        exact this
      have cD := fun wx v h => tref_Depth n.cnt n v wx (Nat.le_refl _) (by omega) h
      rcases p1 with _ | _
      · clear cP2 cP3 cS cD hpw hsm
        go_enter Tryz.func7, Tryz.ntmps7
        go_wp2_with fail
        refine (c2 _).mono ?_
        rintro e w1 ⟨v1, rfl, hn1, b1⟩
        obtain ⟨pa, ca, pk, ck, rfl⟩ := node_form hn1
        simp only at hn1
        have b1' := then_box b1 (.cells #[.int .i64 n.kind, .string n.sp, .string n.nm, .slice pa n.al.length ca, .slice pk n.kids.length ck, .string n.tx, .int .i64 n.at'] 26)
        have t1 := TokT_below hT b1'
        go_wp2_with fail
        refine (cP1 _).mono ?_
        rintro e w' ⟨rfl, rfl⟩
        go_wp2_with fail
        refine (cA _ t1).mono ?_
        rintro e w9 ⟨rfl, b9⟩
        go_wp2
        go_ret
        exact ⟨rfl, b1'.trans (b9.mono b1'.size)⟩
      rcases p2 with _ | _
      case true =>
        clear cP3 cS cD hpw hsm
        go_enter Tryz.func7, Tryz.ntmps7
        go_wp2_with fail
        refine (c2 _).mono ?_
        rintro e w1 ⟨v1, rfl, hn1, b1⟩
        obtain ⟨pa, ca, pk, ck, rfl⟩ := node_form hn1
        simp only at hn1
        have b1' := then_box b1 (.cells #[.int .i64 n.kind, .string n.sp, .string n.nm, .slice pa n.al.length ca, .slice pk n.kids.length ck, .string n.tx, .int .i64 n.at'] 26)
        have t1 := TokT_below hT b1'
        go_wp2_with fail
        refine (cP1 _).mono ?_
        rintro e w' ⟨rfl, rfl⟩
        go_wp2_with fail
        refine (cP2 _).mono ?_
        rintro e w' ⟨rfl, rfl⟩
        go_wp2_with fail
        refine (cA _ t1).mono ?_
        rintro e w9 ⟨rfl, b9⟩
        go_wp2
        go_ret
        exact ⟨rfl, b1'.trans (b9.mono b1'.size)⟩
      rcases p3 with _ | _
      case true =>
        clear cS cD hpw hsm
        go_enter Tryz.func7, Tryz.ntmps7
        go_wp2_with fail
        refine (c2 _).mono ?_
        rintro e w1 ⟨v1, rfl, hn1, b1⟩
        obtain ⟨pa, ca, pk, ck, rfl⟩ := node_form hn1
        simp only at hn1
        have b1' := then_box b1 (.cells #[.int .i64 n.kind, .string n.sp, .string n.nm, .slice pa n.al.length ca, .slice pk n.kids.length ck, .string n.tx, .int .i64 n.at'] 26)
        have t1 := TokT_below hT b1'
        go_wp2_with fail
        refine (cP1 _).mono ?_
        rintro e w' ⟨rfl, rfl⟩
        go_wp2_with fail
        refine (cP2 _).mono ?_
        rintro e w' ⟨rfl, rfl⟩
        go_wp2_with fail
        refine (cP3 _).mono ?_
        rintro e w' ⟨rfl, rfl⟩
        go_wp2_with fail
        refine (cA _ t1).mono ?_
        rintro e w9 ⟨rfl, b9⟩
        go_wp2
        go_ret
        exact ⟨rfl, b1'.trans (b9.mono b1'.size)⟩
      rcases p4 with _ | _
      case false =>
        clear cD hpw hsm
        go_enter Tryz.func7, Tryz.ntmps7
        go_wp2_with fail
        refine (c2 _).mono ?_
        rintro e w1 ⟨v1, rfl, hn1, b1⟩
        obtain ⟨pa, ca, pk, ck, rfl⟩ := node_form hn1
        simp only at hn1
        have b1' := then_box b1 (.cells #[.int .i64 n.kind, .string n.sp, .string n.nm, .slice pa n.al.length ca, .slice pk n.kids.length ck, .string n.tx, .int .i64 n.at'] 26)
        have t1 := TokT_below hT b1'
        go_wp2_with fail
        refine (cP1 _).mono ?_
        rintro e w' ⟨rfl, rfl⟩
        go_wp2_with fail
        refine (cP2 _).mono ?_
        rintro e w' ⟨rfl, rfl⟩
        go_wp2_with fail
        refine (cP3 _).mono ?_
        rintro e w' ⟨rfl, rfl⟩
        go_wp2_with fail
        refine (cS _).mono ?_
        rintro e w' ⟨rfl, rfl⟩
        go_wp2_with fail
        refine (cA _ t1).mono ?_
        rintro e w9 ⟨rfl, b9⟩
        go_wp2
        go_ret
        exact ⟨rfl, b1'.trans (b9.mono b1'.size)⟩
      by_cases hd : 100 ≤ n.depth
      · have hdz : 100 ≤ ((n.depth : Nat) : Int) := by omega
        clear hpw hsm hd
        generalize n.depth = nd at *
        go_enter Tryz.func7, Tryz.ntmps7
        go_wp2_with fail
        refine (c2 _).mono ?_
        rintro e w1 ⟨v1, rfl, hn1, b1⟩
        obtain ⟨pa, ca, pk, ck, rfl⟩ := node_form hn1
        simp only at hn1
        have b1' := then_box b1 (.cells #[.int .i64 n.kind, .string n.sp, .string n.nm, .slice pa n.al.length ca, .slice pk n.kids.length ck, .string n.tx, .int .i64 n.at'] 26)
        have t1 := TokT_below hT b1'
        have B1 : Blk (w1.alloc (.cells #[.int .i64 n.kind, .string n.sp, .string n.nm, .slice pa n.al.length ca, .slice pk n.kids.length ck, .string n.tx, .int .i64 n.at'] 26)) w1.heap.size _ _ := Blk.new w1 #[.int .i64 n.kind, .string n.sp, .string n.nm, .slice pa n.al.length ca, .slice pk n.kids.length ck, .string n.tx, .int .i64 n.at'] 26
        have hn1' := NodeIs.below ((Below.refl w1.heap.size w1).alloc (Nat.le_refl _) (.cells #[.int .i64 n.kind, .string n.sp, .string n.nm, .slice pa n.al.length ca, .slice pk n.kids.length ck, .string n.tx, .int .i64 n.at'] 26)) _ _ hn1
        have f0 := B1.cell 0
        have f1 := B1.cell 1
        have f2 := B1.cell 2
        have f3 := B1.cell 3
        have f4 := B1.cell 4
        have f5 := B1.cell 5
        have f6 := B1.cell 6
        simp only [List.getElem?_toArray, List.getElem?_cons_succ, List.getElem?_cons_zero] at f0 f1 f2 f3 f4 f5 f6
        go_wp2_with fail
        refine (cP1 _).mono ?_
        rintro e w' ⟨rfl, rfl⟩
        go_wp2_with fail
        refine (cP2 _).mono ?_
        rintro e w' ⟨rfl, rfl⟩
        go_wp2_with fail
        refine (cP3 _).mono ?_
        rintro e w' ⟨rfl, rfl⟩
        go_wp2_with fail
        refine (cS _).mono ?_
        rintro e w' ⟨rfl, rfl⟩
        have cD' := cD _ _ hn1'
        go_wp2_with fail
        refine cD'.mono ?_
        rintro e w2 ⟨rfl, b2⟩
        have b12 := b1'.trans (b2.mono b1'.size)
        have t2 := TokT_below t1 b2
        go_wp2_with fail
        refine (cA _ t2).mono ?_
        rintro e w9 ⟨rfl, b9⟩
        go_wp2
        go_ret
        exact ⟨rfl, b12.trans (b9.mono b12.size)⟩
      · have hdz : ¬ 100 ≤ ((n.depth : Nat) : Int) := by omega
        obtain ⟨c, r, hpe, hcn, hck, ha0⟩ := hpw n x1 rfl ((hasP_zero _ _).trans hp1) ((hasP_zero _ _).trans hp2) ((hasP_zero _ _).trans hp3) (suf_last s hp4) (by omega)
        have c3 : ∀ wx, TokT wx → Calls Tryz.prog 10 #[.string (⟨#[60, 119, 114, 97, 112, 62]⟩ ++ s ++ ⟨#[60, 47, 119, 114, 97, 112, 62]⟩)] wx fun e w' => ParsIs wx (c, (s.size : Int) + 13, 0) e w' := fun wx ht => by
          have := xt_Parse (ofBytes wrpB ++ s ++ ofBytes wrpE) wx (by rw [ByteArray.size_append, ByteArray.size_append, ofBytes_size, ofBytes_size]; show 6 + s.size + 7 ≤ _; omega) ht
          rw [hpe] at this
          exact this
        have cE := fun wx v u h h' => tref_Equal false n.wt n (shN 6 n) v u wx (Nat.le_refl _) (by omega) h h'
        rw [eqB_sh] at cE
        have hk0 : (shN 6 n).at' = 6 := by rw [shN_at, ha0]; rfl
        obtain ⟨ck0, csp, cnm, cal, ckids, ctx, cat⟩ := c
        have hcn' : cnm = ⟨#[119, 114, 97, 112]⟩ := hcn.trans rfl
        have hck' : ckids = shN 6 n :: r := hck
        subst hcn' hck'
        have n1 : ¬ 9223372036854775807 < 6 + s.size := by omega
        have n2 : ¬ 9223372036854775807 < 6 + s.size + 7 := by omega
        clear hpw hsm hd hpe hcn hck hp1 hp2 hp3 hp4 ha0
        generalize shN 6 n = y at *
        generalize n.depth = nd at *
        go_enter Tryz.func7, Tryz.ntmps7
        go_wp2_with fail
        refine (c2 _).mono ?_
        rintro e w1 ⟨v1, rfl, hn1, b1⟩
        obtain ⟨pa, ca, pk, ck, rfl⟩ := node_form hn1
        simp only at hn1
        have b1' := then_box b1 (.cells #[.int .i64 n.kind, .string n.sp, .string n.nm, .slice pa n.al.length ca, .slice pk n.kids.length ck, .string n.tx, .int .i64 n.at'] 26)
        have t1 := TokT_below hT b1'
        have B1 : Blk (w1.alloc (.cells #[.int .i64 n.kind, .string n.sp, .string n.nm, .slice pa n.al.length ca, .slice pk n.kids.length ck, .string n.tx, .int .i64 n.at'] 26)) w1.heap.size _ _ := Blk.new w1 #[.int .i64 n.kind, .string n.sp, .string n.nm, .slice pa n.al.length ca, .slice pk n.kids.length ck, .string n.tx, .int .i64 n.at'] 26
        have hn1' := NodeIs.below ((Below.refl w1.heap.size w1).alloc (Nat.le_refl _) (.cells #[.int .i64 n.kind, .string n.sp, .string n.nm, .slice pa n.al.length ca, .slice pk n.kids.length ck, .string n.tx, .int .i64 n.at'] 26)) _ _ hn1
        have f0 := B1.cell 0
        have f1 := B1.cell 1
        have f2 := B1.cell 2
        have f3 := B1.cell 3
        have f4 := B1.cell 4
        have f5 := B1.cell 5
        have f6 := B1.cell 6
        simp only [List.getElem?_toArray, List.getElem?_cons_succ, List.getElem?_cons_zero] at f0 f1 f2 f3 f4 f5 f6
        go_wp2_with fail
        refine (cP1 _).mono ?_
        rintro e w' ⟨rfl, rfl⟩
        go_wp2_with fail
        refine (cP2 _).mono ?_
        rintro e w' ⟨rfl, rfl⟩
        go_wp2_with fail
        refine (cP3 _).mono ?_
        rintro e w' ⟨rfl, rfl⟩
        go_wp2_with fail
        refine (cS _).mono ?_
        rintro e w' ⟨rfl, rfl⟩
        have cD' := cD _ _ hn1'
        go_wp2_with fail
        refine cD'.mono ?_
        rintro e w2 ⟨rfl, b2⟩
        have b12 := b1'.trans (b2.mono b1'.size)
        have t2 := TokT_below t1 b2
        have C1 := B1.more b2
        have m1 := NodeIs.below b2 _ _ hn1'
        clear f0 f1 f2 f3 f4 f5 f6 cD cD' hn1 hn1' B1 b1 b1' b2 t1 cP1 cP2 cP3 cS
        obtain ⟨L, hL⟩ : ∃ L, L = (y :: r).length := ⟨_, rfl⟩
        have hL0 : 0 < (L : Int) := by rw [hL, List.length_cons]; omega
        have hLe : ((L : Int) == 0) = false := by simp; omega
        have hLn : 0 < L := by omega
        have HL := Lib.hid hL
        clear hL
        go_wp2_with fail
        refine (c3 _ t2).mono ?_
        rintro e w3 ⟨v3, rfl, hn3, b3⟩
        simp only at hn3
        rw [NodeIs] at hn3
        obtain ⟨pm, cm, qm, dm, rfl, -, hKm⟩ := hn3
        rw [← HL.out]
        have b3' := then_box b3 (.cells #[.int .i64 ck0, .string csp, .string ⟨#[119, 114, 97, 112]⟩, .slice pm cal.length cm, .slice qm L dm, .string ctx, .int .i64 cat] 26)
        have b13 := b12.trans (b3'.mono b12.size)
        have t3 := TokT_below t2 b3'
        have D1 : Blk (w3.alloc (.cells #[.int .i64 ck0, .string csp, .string ⟨#[119, 114, 97, 112]⟩, .slice pm cal.length cm, .slice qm L dm, .string ctx, .int .i64 cat] 26)) w3.heap.size _ _ := Blk.new w3 #[.int .i64 ck0, .string csp, .string ⟨#[119, 114, 97, 112]⟩, .slice pm cal.length cm, .slice qm L dm, .string ctx, .int .i64 cat] 26
        have C2 := C1.more b3'
        have m2 := NodeIs.below b3' _ _ m1
        have hK3 := KidsAt.below ((Below.refl w3.heap.size w3).alloc (Nat.le_refl _) (.cells #[.int .i64 ck0, .string csp, .string ⟨#[119, 114, 97, 112]⟩, .slice pm cal.length cm, .slice qm L dm, .string ctx, .int .i64 cat] 26)) _ _ _ hKm
        rw [KidsAt] at hK3
        obtain ⟨⟨a, v0, v1, v2, v3, v4, v5, v6, rfl, ⟨k0, k1, k2, k3, k4, k5, k6⟩, hy⟩, -⟩ := hK3
        obtain ⟨ya, yc, yk, yd, hv⟩ := node_form hy
        rw [hk0] at hv
        simp only [Value.agg.injEq, Array.mk.injEq, List.cons.injEq, and_true] at hv
        obtain ⟨rfl, rfl, rfl, rfl, rfl, rfl, rfl⟩ := hv
        have e0 : a.add (0 * 7) = a := rfl
        rw [e0] at k0 k1 k2 k3 k4 k5 k6
        simp only [Addr.add, Nat.reduceEqDiff, ↓reduceIte] at k1 k2 k3 k4 k5 k6
        clear e0
        obtain ⟨W3, hW3⟩ : ∃ W3, W3 = w3.alloc (.cells #[.int .i64 ck0, .string csp, .string ⟨#[119, 114, 97, 112]⟩, .slice pm cal.length cm, .slice (some a) L dm, .string ctx, .int .i64 cat] 26) := ⟨_, rfl⟩
        rw [← hW3] at b3' b13 t3 D1 C2 m2 k0 k1 k2 k3 k4 k5 k6 hy
        have f0 := C2.cell 0
        have f1 := C2.cell 1
        have f2 := C2.cell 2
        have f3 := C2.cell 3
        have f4 := C2.cell 4
        have f5 := C2.cell 5
        have f6 := C2.cell 6
        have g2 := D1.cell 2
        have g4 := D1.cell 4
        simp only [List.getElem?_toArray, List.getElem?_cons_succ, List.getElem?_cons_zero] at f0 f1 f2 f3 f4 f5 f6 g2 g4
        clear hKm C1 C2 D1 m1 b3 t2 c3
        go_upto_region 7 with fail
        simp only [← hW3]
        clear hW3
        go_upto_region 9 with fail
        generalize w1.heap.size = hs at f0 f1 f2 f3 f4 f5 f6 ⊢
        generalize w3.heap.size = hm at g2 g4 ⊢
        have HB := Lib.hid b13.drew
        have S0 : W3.drew.cell? ⟨hs, 0, none⟩ = some (.int .i64 n.kind) ∧ W3.drew.cell? ⟨hs, 1, none⟩ = some (.string n.sp) ∧ W3.drew.cell? ⟨hs, 2, none⟩ = some (.string n.nm) ∧ W3.drew.cell? ⟨hs, 3, none⟩ = some (.slice pa n.al.length ca) ∧ W3.drew.cell? ⟨hs, 4, none⟩ = some (.slice pk n.kids.length ck) ∧ W3.drew.cell? ⟨hs, 5, none⟩ = some (.string n.tx) ∧ W3.drew.cell? ⟨hs, 6, none⟩ = some (.int .i64 n.at') ∧ W3.drew.cell? ⟨hm, 4, none⟩ = some (.slice (some a) L dm) ∧ W3.drew.cell? a = some (.int .i64 y.kind) ∧ W3.drew.cell? ⟨a.block, a.off + 1, none⟩ = some (.string y.sp) ∧ W3.drew.cell? ⟨a.block, a.off + 2, none⟩ = some (.string y.nm) ∧ W3.drew.cell? ⟨a.block, a.off + 3, none⟩ = some (.slice ya y.al.length yc) ∧ W3.drew.cell? ⟨a.block, a.off + 4, none⟩ = some (.slice yk y.kids.length yd) ∧ W3.drew.cell? ⟨a.block, a.off + 5, none⟩ = some (.string y.tx) ∧ W3.drew.cell? ⟨a.block, a.off + 6, none⟩ = some (.int .i64 6) := ⟨f0, f1, f2, f3, f4, f5, f6, g4, k0, k1, k2, k3, k4, k5, k6⟩
        have hSB : ∀ x1 x2 : World, Below x1.heap.size x1 x2 → (x1.cell? ⟨hs, 0, none⟩ = some (.int .i64 n.kind) ∧ x1.cell? ⟨hs, 1, none⟩ = some (.string n.sp) ∧ x1.cell? ⟨hs, 2, none⟩ = some (.string n.nm) ∧ x1.cell? ⟨hs, 3, none⟩ = some (.slice pa n.al.length ca) ∧ x1.cell? ⟨hs, 4, none⟩ = some (.slice pk n.kids.length ck) ∧ x1.cell? ⟨hs, 5, none⟩ = some (.string n.tx) ∧ x1.cell? ⟨hs, 6, none⟩ = some (.int .i64 n.at') ∧ x1.cell? ⟨hm, 4, none⟩ = some (.slice (some a) L dm) ∧ x1.cell? a = some (.int .i64 y.kind) ∧ x1.cell? ⟨a.block, a.off + 1, none⟩ = some (.string y.sp) ∧ x1.cell? ⟨a.block, a.off + 2, none⟩ = some (.string y.nm) ∧ x1.cell? ⟨a.block, a.off + 3, none⟩ = some (.slice ya y.al.length yc) ∧ x1.cell? ⟨a.block, a.off + 4, none⟩ = some (.slice yk y.kids.length yd) ∧ x1.cell? ⟨a.block, a.off + 5, none⟩ = some (.string y.tx) ∧ x1.cell? ⟨a.block, a.off + 6, none⟩ = some (.int .i64 6)) → (x2.cell? ⟨hs, 0, none⟩ = some (.int .i64 n.kind) ∧ x2.cell? ⟨hs, 1, none⟩ = some (.string n.sp) ∧ x2.cell? ⟨hs, 2, none⟩ = some (.string n.nm) ∧ x2.cell? ⟨hs, 3, none⟩ = some (.slice pa n.al.length ca) ∧ x2.cell? ⟨hs, 4, none⟩ = some (.slice pk n.kids.length ck) ∧ x2.cell? ⟨hs, 5, none⟩ = some (.string n.tx) ∧ x2.cell? ⟨hs, 6, none⟩ = some (.int .i64 n.at') ∧ x2.cell? ⟨hm, 4, none⟩ = some (.slice (some a) L dm) ∧ x2.cell? a = some (.int .i64 y.kind) ∧ x2.cell? ⟨a.block, a.off + 1, none⟩ = some (.string y.sp) ∧ x2.cell? ⟨a.block, a.off + 2, none⟩ = some (.string y.nm) ∧ x2.cell? ⟨a.block, a.off + 3, none⟩ = some (.slice ya y.al.length yc) ∧ x2.cell? ⟨a.block, a.off + 4, none⟩ = some (.slice yk y.kids.length yd) ∧ x2.cell? ⟨a.block, a.off + 5, none⟩ = some (.string y.tx) ∧ x2.cell? ⟨a.block, a.off + 6, none⟩ = some (.int .i64 6)) := by
          intro x1 x2 hb h
          obtain ⟨z0, z1, z2, z3, z4, z5, z6, z7, z8, z9, z10, z11, z12, z13, z14⟩ := h
          exact ⟨(hb.cell (kblock_lt z0)).trans z0, (hb.cell (kblock_lt z1)).trans z1, (hb.cell (kblock_lt z2)).trans z2, (hb.cell (kblock_lt z3)).trans z3, (hb.cell (kblock_lt z4)).trans z4, (hb.cell (kblock_lt z5)).trans z5, (hb.cell (kblock_lt z6)).trans z6, (hb.cell (kblock_lt z7)).trans z7, (hb.cell (kblock_lt z8)).trans z8, (hb.cell (kblock_lt z9)).trans z9, (hb.cell (kblock_lt z10)).trans z10, (hb.cell (kblock_lt z11)).trans z11, (hb.cell (kblock_lt z12)).trans z12, (hb.cell (kblock_lt z13)).trans z13, (hb.cell (kblock_lt z14)).trans z14⟩
        have N0 : NodeIs W3.drew n (.agg #[.int .i64 n.kind, .string n.sp, .string n.nm, .slice pa n.al.length ca, .slice pk n.kids.length ck, .string n.tx, .int .i64 n.at']) ∧ NodeIs W3.drew y (.agg #[.int .i64 y.kind, .string y.sp, .string y.nm, .slice ya y.al.length yc, .slice yk y.kids.length yd, .string y.tx, .int .i64 6]) := ⟨NodeIs.below (Below.drew (Below.refl _ _)) _ _ m2, NodeIs.below (Below.drew (Below.refl _ _)) _ _ hy⟩
        have hNB : ∀ x1 x2 : World, Below x1.heap.size x1 x2 → (NodeIs x1 n (.agg #[.int .i64 n.kind, .string n.sp, .string n.nm, .slice pa n.al.length ca, .slice pk n.kids.length ck, .string n.tx, .int .i64 n.at']) ∧ NodeIs x1 y (.agg #[.int .i64 y.kind, .string y.sp, .string y.nm, .slice ya y.al.length yc, .slice yk y.kids.length yd, .string y.tx, .int .i64 6])) → (NodeIs x2 n (.agg #[.int .i64 n.kind, .string n.sp, .string n.nm, .slice pa n.al.length ca, .slice pk n.kids.length ck, .string n.tx, .int .i64 n.at']) ∧ NodeIs x2 y (.agg #[.int .i64 y.kind, .string y.sp, .string y.nm, .slice ya y.al.length yc, .slice yk y.kids.length yd, .string y.tx, .int .i64 6])) := fun x1 x2 hb h => ⟨NodeIs.below hb _ _ h.1, NodeIs.below hb _ _ h.2⟩
        have t0 := TokT_below t3 (Below.refl _ _).drew
        clear m2 hy t3 f0 f1 f2 f3 f4 f5 f6 g2 g4 k0 k1 k2 k3 k4 k5 k6 b13 b3' b12
        go_region_held3 (fun w' => w'.cell? ⟨hs, 0, none⟩ = some (.int .i64 n.kind) ∧ w'.cell? ⟨hs, 1, none⟩ = some (.string n.sp) ∧ w'.cell? ⟨hs, 2, none⟩ = some (.string n.nm) ∧ w'.cell? ⟨hs, 3, none⟩ = some (.slice pa n.al.length ca) ∧ w'.cell? ⟨hs, 4, none⟩ = some (.slice pk n.kids.length ck) ∧ w'.cell? ⟨hs, 5, none⟩ = some (.string n.tx) ∧ w'.cell? ⟨hs, 6, none⟩ = some (.int .i64 n.at') ∧ w'.cell? ⟨hm, 4, none⟩ = some (.slice (some a) L dm) ∧ w'.cell? a = some (.int .i64 y.kind) ∧ w'.cell? ⟨a.block, a.off + 1, none⟩ = some (.string y.sp) ∧ w'.cell? ⟨a.block, a.off + 2, none⟩ = some (.string y.nm) ∧ w'.cell? ⟨a.block, a.off + 3, none⟩ = some (.slice ya y.al.length yc) ∧ w'.cell? ⟨a.block, a.off + 4, none⟩ = some (.slice yk y.kids.length yd) ∧ w'.cell? ⟨a.block, a.off + 5, none⟩ = some (.string y.tx) ∧ w'.cell? ⟨a.block, a.off + 6, none⟩ = some (.int .i64 6)) (first | with_reducible exact S2 | with_reducible exact S1 | with_reducible exact S0) (first | (go_at_call 9; refine (cA _ t0).mono ?_; rintro e y1 ⟨rfl, b1⟩; have S1 := hSB _ _ b1 S0; have N1 := hNB _ _ b1 N0) | (go_at_call 12; refine (cE _ _ _ N1.1 N1.2).mono ?_; rintro e y2 ⟨rfl, b2⟩; have S2 := hSB _ _ b2 S1))
        go_wp2
        go_ret
        exact ⟨by simp, (HB.out.trans (b1.mono HB.out.size)).trans (b2.mono (Nat.le_trans HB.out.size b1.size))⟩
    · have hxb : (x2 != 0) = true := by simpa using hx
      clear hpw hsm
      go_enter Tryz.func7, Tryz.ntmps7
      go_wp2_with fail
      refine (c2 _).mono ?_
      rintro e w1 ⟨v1, rfl, hn1, b1⟩
      obtain ⟨pa, ca, pk, ck, rfl⟩ := node_form hn1
      simp only at hn1
      have b1' := then_box b1 (.cells #[.int .i64 n.kind, .string n.sp, .string n.nm, .slice pa n.al.length ca, .slice pk n.kids.length ck, .string n.tx, .int .i64 n.at'] 26)
      have t1 := TokT_below hT b1'
      go_wp2_with fail
      refine (cA _ t1).mono ?_
      rintro e w9 ⟨rfl, b9⟩
      go_wp2
      go_ret
      exact ⟨rfl, b1'.trans (b9.mono b1'.size)⟩
  · have hsz : ¬ (s.size : Int) ≤ 3000 := by omega
    go_enter Tryz.func7, Tryz.ntmps7
    go_wp2_with fail
    refine (cA _ hT).mono ?_
    rintro e w1 ⟨rfl, b1⟩
    go_wp2
    go_ret
    exact ⟨rfl, b1⟩
end Go.Proofs.YtpmkapamlhnmpaaGreatDoor
end
