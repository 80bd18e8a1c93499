/- Packed from the texts JzW. -/
import Derived.Test.YtkkiklaoljdhhaaGreatDoorYJzG
import Derived.Test.YtkkiklaoljdhhaaGreatDoorYkT
section
namespace Go.Proofs.YtkkiklaoljdhhaaGreatDoor
open Go.RowKit
theorem hd_of (f i d : Nat) (c : UInt8) (r : List UInt8) : headK (f + 1) i (c :: r) d =
    if c = 110 then wordK i (c :: r) [110, 117, 108, 108] 0 false
    else if c = 116 then wordK i (c :: r) [116, 114, 117, 101] 1 true
    else if c = 102 then wordK i (c :: r) [102, 97, 108, 115, 101] 1 false
    else if c = 34 then strK i (c :: r)
    else if c = 91 ∨ c = 123 then
      (if d > 100 then .err i 9
       else if [endB (decide (c = 123))].isPrefixOf ((c :: r).drop (1 + spN r)) = true then .ok (.mk (kindB (decide (c = 123))) false 0 ⟨#[]⟩ [] [] i) (1 + spN r + 1)
       else (listK f (decide (c = 123)) i [] [] (i + (1 + spN r)) ((c :: r).drop (1 + spN r)) d).plus (1 + spN r))
    else if c = 45 ∨ (48 ≤ c.toNat ∧ c.toNat ≤ 57) then numK i (c :: r)
    else .err i 7 := by
  rw [headK, if_neg (by simp)]
  rfl
theorem first_ok (f i d : Nat) (p r : List UInt8) (v : ValD) (h : headK f i (p ++ r) d = .ok v p.length) : ∃ c q, p = c :: q ∧ c ≠ 93 ∧ c ≠ 125 := by
  have hp := ((ends f).2.1 d _ _ _ _ h).1
  obtain ⟨c, q, rfl⟩ := List.exists_cons_of_ne_nil (List.length_pos_iff.1 hp)
  refine ⟨c, q, rfl, ?_, ?_⟩
  · rintro rfl
    cases f with
    | zero => rw [headK] at h; cases h
    | succ f => rw [List.cons_append, hd_of] at h; simp at h
  · rintro rfl
    cases f with
    | zero => rw [headK] at h; cases h
    | succ f => rw [List.cons_append, hd_of] at h; simp at h
theorem open_list (obj : Bool) (A X : List UInt8) (f i d : Nat) (hA : ∀ c ∈ A, spB c = true) (hX : spN X = 0) (hno : ¬ [endB obj].isPrefixOf X = true) (hd : d ≤ 100) :
    headK (f + 1) i ((if obj then 123 else 91) :: (A ++ X)) d = (listK f obj i [] [] (i + (1 + A.length)) X d).plus (1 + A.length) := by
  have hs := spN_all A X hA hX
  have hdr : ∀ c : UInt8, (c :: (A ++ X)).drop (1 + A.length) = X := fun c => by rw [Nat.add_comm 1, List.drop_succ_cons, List.drop_left]
  have ho : decide ((if obj then (123 : UInt8) else 91) = 123) = obj := by cases obj <;> rfl
  rw [hd_of, hs, hdr, ho, if_neg (by cases obj <;> decide), if_neg (by cases obj <;> decide), if_neg (by cases obj <;> decide), if_neg (by cases obj <;> decide), if_pos (by cases obj <;> decide), if_neg (by omega), if_neg hno]
theorem listA_sp (A X C Y : List UInt8) (f fr i d : Nat) (items : List ValD) (v : ValD) (hA : ∀ c ∈ A, spB c = true) (hX : spN (X ++ (C ++ Y)) = 0) (hC : ∀ c ∈ C, spB c = true) (hY : spN Y = 0)
    (h : valK f (i + A.length) (X ++ (C ++ Y)) (d + 1) = .ok v X.length) :
    listK (f + 1) false fr items [] i (A ++ (X ++ (C ++ Y))) d = if [(93 : UInt8)].isPrefixOf Y = true then .ok (.mk 4 false 0 ⟨#[]⟩ (items ++ [v]) [] fr) (A.length + X.length + C.length + 1)
      else if [(44 : UInt8)].isPrefixOf Y = true then (listK f false fr (items ++ [v]) [] (i + (A.length + X.length + C.length + 1)) (Y.drop 1) d).plus (A.length + X.length + C.length + 1)
      else .err (wrongK (i + (A.length + X.length + C.length)) Y).1 (wrongK (i + (A.length + X.length + C.length)) Y).2 := by
  have hs := spN_all A _ hA hX
  have hd1 : (A ++ (X ++ (C ++ Y))).drop A.length = X ++ (C ++ Y) := List.drop_left
  have hd2 : (A ++ (X ++ (C ++ Y))).drop (A.length + X.length) = C ++ Y := by rw [← List.drop_drop, hd1, List.drop_left]
  have hd3 : (A ++ (X ++ (C ++ Y))).drop (A.length + X.length + C.length) = Y := by rw [← List.drop_drop, hd2, List.drop_left]
  have hd4 : (A ++ (X ++ (C ++ Y))).drop (A.length + X.length + C.length + 1) = Y.drop 1 := by rw [← List.drop_drop, hd3]
  have hs2 := spN_all C Y hC hY
  rw [listK, hs]
  simp only [Bool.false_eq_true, if_false, Nat.add_zero, hd1, h, hd2, hs2, hd3, hd4]
  rfl
theorem listO_sp (K B X C Y key : List UInt8) (f fr i d : Nat) (v : ValD) (hK : spN (K ++ (B ++ (X ++ (C ++ Y)))) = 0) (hC : ∀ c ∈ C, spB c = true) (hY : spN Y = 0)
    (hkey : keyK i (K ++ (B ++ (X ++ (C ++ Y)))) [] = .ok key K.length) (h : valK f (i + K.length) (B ++ (X ++ (C ++ Y))) (d + 1) = .ok v (B.length + X.length)) (he : [(125 : UInt8)].isPrefixOf Y = true) :
    listK (f + 1) true fr [] [] i (K ++ (B ++ (X ++ (C ++ Y)))) d = .ok (.mk 5 false 0 ⟨#[]⟩ [] [.mk (ofBytes key) v (i : Nat)] fr) (K.length + (B.length + X.length) + C.length + 1) := by
  have hd1 : (K ++ (B ++ (X ++ (C ++ Y)))).drop K.length = B ++ (X ++ (C ++ Y)) := List.drop_left
  have hd2 : (K ++ (B ++ (X ++ (C ++ Y)))).drop (K.length + (B.length + X.length)) = C ++ Y := by rw [← List.drop_drop, hd1, ← List.drop_drop, List.drop_left, List.drop_left]
  have hd3 : (K ++ (B ++ (X ++ (C ++ Y)))).drop (K.length + (B.length + X.length) + C.length) = Y := by rw [← List.drop_drop, hd2, List.drop_left]
  have hs2 := spN_all C Y hC hY
  rw [listK, hK]
  simp only [if_true, Nat.add_zero, Nat.zero_add, List.drop_zero, List.map_nil, hkey, hd1, h, hd2, hs2, hd3]
  rw [if_pos (show [endB true].isPrefixOf Y = true from he)]
  rfl
theorem key_k (i : Nat) (sp R : List UInt8) (hsp : ∀ c ∈ sp, spB c = true) : keyK i (34 :: 107 :: 34 :: (sp ++ (58 :: R))) [] = .ok [107] (3 + sp.length + 1) := by
  have hp : parJ i ((i : Int) + 1) (107 :: 34 :: (sp ++ (58 :: R))) [] = ([107], (i : Int) + 3, 0) := by
    rw [parJ_plain _ _ _ _ _ (by decide) (by decide) (by decide) (by decide), parJ_quote]
    refine Prod.ext rfl (Prod.ext ?_ rfl)
    show (i : Int) + 1 + 1 + 1 = (i : Int) + 3
    omega
  have e : ((i : Int) + 3 - (i : Int)).toNat = 3 := by omega
  have hd : (34 :: 107 :: 34 :: (sp ++ (58 :: R))).drop (3 + sp.length) = 58 :: R := by
    rw [Nat.add_comm 3, List.drop_succ_cons, List.drop_succ_cons, List.drop_succ_cons, List.drop_left]
  unfold keyK
  rw [if_neg (by simp)]
  simp only [List.drop_succ_cons, List.drop_zero, hp]
  rw [e]
  simp only [List.drop_succ_cons, List.drop_zero]
  rw [spN_all sp (58 :: R) hsp (spN_no 58 R (by decide)), if_neg (by simp), if_neg (by simp)]
  rw [if_pos (by rw [hd]; simp [List.isPrefixOf])]
theorem wrongK_ne (i : Nat) (l : List UInt8) : (wrongK i l).2 ≠ 0 := by unfold wrongK; split <;> simp
theorem word_ne (i : Nat) (l t : List UInt8) (K : Int) (B : Bool) (a e : Int) (h : wordK i l t K B = .err a e) : e ≠ 0 := by
  unfold wordK at h
  split at h
  · cases h
  · injection h with h1 h2; rw [← h2]; exact wrongK_ne _ _
theorem str_neK (i : Nat) (l : List UInt8) (a e : Int) (h : strK i l = .err a e) : e ≠ 0 := by
  unfold strK at h
  split at h
  · rename_i hh
    injection h with h1 h2; rw [← h2]; exact hh
  · cases h
theorem num_neK (i : Nat) (l : List UInt8) (a e : Int) (h : numK i l = .err a e) : e ≠ 0 := by
  unfold numK at h
  split at h
  · cases h
  · injection h with h1 h2; rw [← h2]; decide
theorem key_neK (i : Nat) (l : List UInt8) (keys : List ByteArray) (a e : Int) (h : keyK i l keys = .err a e) : e ≠ 0 := by
  unfold keyK at h
  split at h
  · injection h with h1 h2; rw [← h2]; exact wrongK_ne _ _
  split at h
  · rename_i hh
    injection h with h1 h2; rw [← h2]; exact hh
  split at h
  · injection h with h1 h2; rw [← h2]; decide
  simp only at h
  split at h
  · cases h
  · injection h with h1 h2; rw [← h2]; exact wrongK_ne _ _
theorem plus_errK {R : Jres} {c : Nat} {a e : Int} (h : R.plus c = .err a e) : R = .err a e := by
  cases R with
  | err x y => exact h
  | ok u j => cases h
theorem err_all : ∀ f : Nat, (∀ i l d a e, 3 * l.length + 2 ≤ f → valK f i l d = .err a e → e ≠ 0) ∧ (∀ i l d a e, 3 * l.length + 1 ≤ f → headK f i l d = .err a e → e ≠ 0) ∧ (∀ obj fr items mems i l d a e, 3 * l.length + 3 ≤ f → listK f obj fr items mems i l d = .err a e → e ≠ 0)
  | 0 => ⟨(fun i l d a e hf => absurd hf (by omega)), (fun i l d a e hf => absurd hf (by omega)), (fun obj fr items mems i l d a e hf => absurd hf (by omega))⟩
  | f + 1 => by
    obtain ⟨iV, iH, iL⟩ := err_all f
    refine ⟨fun i l d a e hf h => ?_, fun i l d a e hf h => ?_, fun obj fr items mems i l d a e hf h => ?_⟩
    · rw [valK] at h
      exact iH _ _ _ _ _ (by rw [List.length_drop]; omega) (plus_errK h)
    · rw [headK] at h
      split at h
      · injection h with h1 h2; rw [← h2]; decide
      rename_i hne
      have hp := List.length_pos_iff.2 hne
      split at h
      · exact word_ne _ _ _ _ _ _ _ h
      split at h
      · exact word_ne _ _ _ _ _ _ _ h
      split at h
      · exact word_ne _ _ _ _ _ _ _ h
      split at h
      · exact str_neK _ _ _ _ h
      split at h
      · split at h
        · injection h with h1 h2; rw [← h2]; decide
        split at h
        · cases h
        · exact iL _ _ _ _ _ _ _ _ _ (by rw [List.length_drop]; omega) (plus_errK h)
      split at h
      · exact num_neK _ _ _ _ h
      · injection h with h1 h2; rw [← h2]; decide
    · rw [listK] at h
      split at h
      · rename_i a' e' hk
        injection h with h1 h2
        rw [← h2]
        cases obj
        · simp at hk
        · exact key_neK _ _ _ _ _ hk
      rename_i key kk hk
      split at h
      · rename_i a' e' hv
        injection h with h1 h2
        rw [← h2]
        exact iV _ _ _ _ _ (by rw [List.length_drop]; omega) hv
      rename_i u kv hv
      simp only at h
      split at h
      · cases h
      split at h
      · rename_i hp
        have hpp := pre_pos hp
        rw [List.length_drop] at hpp
        exact iL _ _ _ _ _ _ _ _ _ (by rw [List.length_drop]; omega) (plus_errK h)
      · injection h with h1 h2; rw [← h2]; exact wrongK_ne _ _
theorem tA_ne (s : List UInt8) (a : Int) : tA s ≠ .err a 0 := by
  intro h
  unfold tA vA at h
  generalize hb : (if [239, 187, 191].isPrefixOf s = true then 3 else 0) = b at h
  rcases hV : valK (3 * (s.drop b).length + 2) b (s.drop b) 1 with ⟨x, e⟩ | ⟨v, k⟩
  · rw [hV] at h
    simp only [Jres.to] at h
    injection h with h1 h2
    exact (err_all _).1 _ _ _ _ _ (Nat.le_refl _) hV h2
  · rw [hV] at h
    simp only [Jres.to] at h
    split at h
    · injection h with h1 h2
      exact absurd h2 (by decide)
    · cases h
def withinT (sp s : List UInt8) : List UInt8 := 91 :: (sp ++ (s ++ (sp ++ (44 :: (sp ++ (123 :: (sp ++ (34 :: 107 :: 34 :: (sp ++ (58 :: (s ++ (125 :: (sp ++ [93])))))))))))))
theorem within_ok (s : List UInt8) (v : ValD) (n : Int) (hb : ¬ [239, 187, 191].isPrefixOf s = true) (h : parR s = (v, n, 0)) (hnz : ∀ a, tA s ≠ .err a 0) (sp : List UInt8) (hsp : ∀ c ∈ sp, spB c = true) (hd : v.depth ≤ 98) :
    ∃ a y o1 o2, parR (withinT sp s) = (.mk 4 false 0 ⟨#[]⟩ [a, .mk 5 false 0 ⟨#[]⟩ [] [.mk ⟨#[107]⟩ y o1] o2] [] 0, ((withinT sp s).length : Int), 0) ∧ v.eqB false a = true ∧ v.eqB false y = true := by
  obtain ⟨w, p, r, hs, hw, hr, hp0, f, hh⟩ := ok_parts s v n hb h hnz
  obtain ⟨c0, q0, hpc, hc1, hc2⟩ := first_ok _ _ _ _ _ _ hh
  have hbom : ¬ [239, 187, 191].isPrefixOf (withinT sp s) = true := by unfold withinT; simp [List.isPrefixOf]
  -- the object
  have hO : ∀ (i1 F : Nat) (t : List UInt8), 3 * (123 :: (sp ++ (34 :: 107 :: 34 :: (sp ++ (58 :: (w ++ (p ++ (r ++ (125 :: t))))))))).length + 2 ≤ F →
      ∃ y o1 k, valK F i1 (123 :: (sp ++ (34 :: 107 :: 34 :: (sp ++ (58 :: (w ++ (p ++ (r ++ (125 :: t))))))))) 2 = .ok (.mk 5 false 0 ⟨#[]⟩ [] [.mk ⟨#[107]⟩ y o1] i1) k ∧ v.eqB false y = true ∧ k = (123 :: (sp ++ (34 :: 107 :: 34 :: (sp ++ (58 :: (w ++ (p ++ (r ++ [125])))))))).length := by
    intro i1 F t hF
    obtain ⟨F, rfl⟩ := Nat.exists_eq_add_of_le (show 3 ≤ F by simp only [List.length_cons] at hF; omega)
    have hsp0 : spN (34 :: 107 :: 34 :: (sp ++ (58 :: (w ++ (p ++ (r ++ (125 :: t))))))) = 0 := spN_no 34 _ (by decide)
    obtain ⟨y, hv, hyE⟩ : ∃ y, valK F (i1 + (1 + sp.length) + (3 + sp.length + 1)) (w ++ (p ++ (r ++ (125 :: t)))) 3 = .ok y (w.length + p.length) ∧ v.eqB false y = true := ⟨_, val_around f p r w.length 1 v hh hp0 w (r ++ (125 :: t)) hw (stop_sp r hr _ (.inr (show numP 125 = false by decide))) (i1 + (1 + sp.length) + (3 + sp.length + 1)) 3 F (by omega) (by
      simp only [List.length_cons, List.length_append] at hF ⊢
      omega), veq_sh _ v⟩
    have hl := listO_sp (34 :: 107 :: 34 :: (sp ++ [58])) w p r (125 :: t) [107] F i1 (i1 + (1 + sp.length)) 2 y (by
      rw [show (34 :: 107 :: 34 :: (sp ++ [58])) ++ (w ++ (p ++ (r ++ (125 :: t)))) = 34 :: (107 :: 34 :: (sp ++ (58 :: (w ++ (p ++ (r ++ (125 :: t))))))) by simp]
      exact spN_no 34 _ (by decide)) hr (spN_no 125 t (by decide)) (by
      rw [show (34 :: 107 :: 34 :: (sp ++ [58])) ++ (w ++ (p ++ (r ++ (125 :: t)))) = 34 :: 107 :: 34 :: (sp ++ (58 :: (w ++ (p ++ (r ++ (125 :: t)))))) by simp]
      rw [key_k _ sp _ hsp]
      congr 1
      simp
      omega) (by
      rw [show (34 :: 107 :: 34 :: (sp ++ [58]) : List UInt8).length = 3 + sp.length + 1 by simp; omega]
      exact hv) (by simp [List.isPrefixOf])
    rw [show (34 :: 107 :: 34 :: (sp ++ [58])) ++ (w ++ (p ++ (r ++ (125 :: t)))) = 34 :: 107 :: 34 :: (sp ++ (58 :: (w ++ (p ++ (r ++ (125 :: t)))))) by simp] at hl
    refine ⟨y, ((i1 + (1 + sp.length) : Nat) : Int), 1 + sp.length + ((34 :: 107 :: 34 :: (sp ++ [58]) : List UInt8).length + (w.length + p.length) + r.length + 1), ?_, hyE, ?_⟩
    · have hv0 : ∀ X : List UInt8, spN X = 0 → valK (F + 1 + 1 + 1) i1 X 2 = headK (F + 1 + 1) i1 X 2 := fun X hX => by rw [valK, hX, List.drop_zero, plus_zero]; rfl
      rw [show 3 + F = F + 1 + 1 + 1 by omega, hv0 _ (spN_no 123 _ (by decide))]
      have ho := open_list true sp (34 :: 107 :: 34 :: (sp ++ (58 :: (w ++ (p ++ (r ++ (125 :: t))))))) (F + 1) i1 2 hsp hsp0 (by simp [List.isPrefixOf, endB]) (by omega)
      simp only [if_true] at ho
      rw [ho, hl]
      rfl
    · simp
      omega
  obtain ⟨Z, hZ⟩ : ∃ Z, Z = sp ++ (123 :: (sp ++ (34 :: 107 :: 34 :: (sp ++ (58 :: (w ++ (p ++ (r ++ (125 :: (sp ++ [93])))))))))) := ⟨_, rfl⟩
  have hT : withinT sp s = 91 :: ((sp ++ w) ++ (p ++ ((r ++ sp) ++ (44 :: Z)))) := by rw [withinT, hs, hZ]; simp [List.append_assoc]
  obtain ⟨N, hN⟩ : ∃ N, (withinT sp s).length = N := ⟨_, rfl⟩
  have hN2 : N = 1 + (sp.length + w.length + (p.length + (r.length + sp.length + (1 + Z.length)))) := by rw [← hN, hT]; simp; omega
  have hZl : Z.length = sp.length + (1 + (sp.length + (3 + (sp.length + (1 + (w.length + (p.length + (r.length + (1 + (sp.length + 1)))))))))) := by rw [hZ]; simp; omega
  obtain ⟨F2, hF2⟩ : ∃ F2, 3 * N + 2 = F2 + 1 + 1 + 1 + 1 := ⟨3 * N - 2, by omega⟩
  obtain ⟨a, ha, haE⟩ : ∃ a, valK (F2 + 1) (0 + (1 + (sp ++ w).length)) (p ++ ((r ++ sp) ++ (44 :: Z))) 2 = .ok a p.length ∧ v.eqB false a = true := by
    have := val_around f p r w.length 1 v hh hp0 [] ((r ++ sp) ++ (44 :: Z)) (fun c hc => by cases hc) (stop_sp _ (all_app hr hsp) _ (.inr (show numP 44 = false by decide))) (0 + (1 + (sp ++ w).length)) 2 (F2 + 1) (by omega) (by
      simp only [List.nil_append, List.length_cons, List.length_append]
      omega)
    rw [List.nil_append, List.length_nil, Nat.zero_add p.length] at this
    exact ⟨_, this, veq_sh _ v⟩
  obtain ⟨y, o1, k, hk, hyE, hkl⟩ := hO (0 + (1 + (sp ++ w).length) + (0 + p.length + (r ++ sp).length + 1) + sp.length) F2 (sp ++ [93]) (by
    simp only [List.length_cons, List.length_append, List.length_nil]
    omega)
  refine ⟨a, y, o1, ((0 + (1 + (sp ++ w).length) + (0 + p.length + (r ++ sp).length + 1) + sp.length : Nat) : Int), ?_, haE, hyE⟩
  have h2 := listA_sp sp (123 :: (sp ++ (34 :: 107 :: 34 :: (sp ++ (58 :: (w ++ (p ++ (r ++ [125])))))))) sp [93] F2 0 (0 + (1 + (sp ++ w).length) + (0 + p.length + (r ++ sp).length + 1)) 1 [a] _ hsp (spN_no 123 _ (by decide)) hsp (spN_no 93 [] (by decide)) (by
    rw [← hkl]
    rw [show (123 :: (sp ++ (34 :: 107 :: 34 :: (sp ++ (58 :: (w ++ (p ++ (r ++ [125])))))))) ++ (sp ++ [93]) = 123 :: (sp ++ (34 :: 107 :: 34 :: (sp ++ (58 :: (w ++ (p ++ (r ++ (125 :: (sp ++ [93]))))))))) by simp [List.append_assoc]]
    exact hk)
  rw [show sp ++ ((123 :: (sp ++ (34 :: 107 :: 34 :: (sp ++ (58 :: (w ++ (p ++ (r ++ [125])))))))) ++ (sp ++ [93])) = Z by rw [hZ]; simp [List.append_assoc], if_pos (by simp [List.isPrefixOf])] at h2
  have h1 := listA_sp [] p (r ++ sp) (44 :: Z) (F2 + 1) 0 (0 + (1 + (sp ++ w).length)) 1 [] a (fun c hc => by cases hc) (hp0 _) (all_app hr hsp) (spN_no 44 Z (by decide)) (by rw [List.length_nil, Nat.add_zero]; exact ha)
  rw [List.nil_append, if_neg (by simp [List.isPrefixOf]), if_pos (by simp [List.isPrefixOf]), List.nil_append, List.drop_succ_cons, List.drop_zero, List.length_nil, h2] at h1
  have h0 := open_list false (sp ++ w) (p ++ ((r ++ sp) ++ (44 :: Z))) (F2 + 1 + 1) 0 1 (all_app hsp hw) (hp0 _) (by rw [hpc]; simp [List.isPrefixOf, endB]; exact fun e => hc1 e.symm) (by omega)
  simp only [Bool.false_eq_true, if_false] at h0
  rw [h1, ← hT] at h0
  have hV : valK (3 * N + 2) 0 (withinT sp s) 1 = headK (F2 + 1 + 1 + 1) 0 (withinT sp s) 1 := by
    rw [hF2, valK]
    have : spN (withinT sp s) = 0 := by rw [hT]; exact spN_no 91 _ (by decide)
    rw [this, List.drop_zero, plus_zero]
  rw [h0] at hV
  have hA : vA (withinT sp s) 0 1 = .ok (.mk 4 false 0 ⟨#[]⟩ [a, .mk 5 false 0 ⟨#[]⟩ [] [.mk ⟨#[107]⟩ y o1] ((0 + (1 + (sp ++ w).length) + (0 + p.length + (r ++ sp).length + 1) + sp.length : Nat) : Int)] [] 0) N := by
    unfold vA
    rw [List.drop_zero, hN, hV]
    show Ares.ok _ _ = Ares.ok _ _
    congr 1
    simp only [List.length_cons, List.length_append, List.length_nil]
    omega
  unfold parR tA
  rw [if_neg hbom, hA]
  simp only [hN]
  rw [spP_end _ _ (by omega), if_neg (by omega)]
end Go.Proofs.YtkkiklaoljdhhaaGreatDoor
end
