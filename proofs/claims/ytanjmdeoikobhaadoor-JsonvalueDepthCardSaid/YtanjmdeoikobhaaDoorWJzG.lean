/- Packed from the texts JzG. -/
import Derived.Test.YtanjmdeoikobhaaDoorWkP
import Derived.Lib.Repeat
section
namespace Go.Proofs.YtanjmdeoikobhaaDoor
open Go.RowKit
def opJ (obj : Bool) : List UInt8 := if obj then [123, 34, 97, 34, 58] else [91]
def nestJ (obj : Bool) : Nat → List UInt8
  | 0 => [if obj then 123 else 91, endB obj]
  | j + 1 => opJ obj ++ (nestJ obj j ++ [endB obj])
def nlen (obj : Bool) (j : Nat) : Nat := 2 + j * ((opJ obj).length + 1)
theorem nest_len (obj : Bool) : ∀ j, (nestJ obj j).length = nlen obj j
  | 0 => by cases obj <;> rfl
  | j + 1 => by
    rw [nestJ, List.length_append, List.length_append, nest_len obj j]
    unfold nlen
    rw [Nat.succ_mul]
    show _ + (_ + 1) = _
    omega
theorem spN_no (c : UInt8) (r : List UInt8) (h : spB c = false) : spN (c :: r) = 0 := by
  unfold spN
  rw [List.takeWhile_cons, h]
  rfl
theorem nest_head (obj : Bool) (j : Nat) : ∃ r, nestJ obj j = (if obj then 123 else 91) :: r := by
  cases j with
  | zero => exact ⟨_, rfl⟩
  | succ j => cases obj <;> exact ⟨_, rfl⟩
theorem nest_sp (obj : Bool) (j : Nat) (t : List UInt8) : spN (nestJ obj j ++ t) = 0 := by
  obtain ⟨r, hr⟩ := nest_head obj j
  rw [hr, List.cons_append]
  exact spN_no _ _ (by cases obj <;> decide)
theorem plus_zero (R : Jres) : R.plus 0 = R := by
  cases R with
  | err a e => rfl
  | ok v k => show Jres.ok v (0 + k) = _; rw [Nat.zero_add]
theorem val_nest (obj : Bool) (j : Nat) (t : List UInt8) (f i d : Nat) : valK (f + 1) i (nestJ obj j ++ t) d = headK f i (nestJ obj j ++ t) d := by
  rw [valK, nest_sp, plus_zero]
  rfl
theorem head_open (obj : Bool) (f i d : Nat) (r : List UInt8) (h0 : spN r = 0) : headK (f + 1) i ((if obj then 123 else 91) :: r) d = if d > 100 then .err i 9 else if [endB obj].isPrefixOf r = true then .ok (.mk (kindB obj) false 0 ⟨#[]⟩ [] [] i) 2 else (listK f obj i [] [] (i + 1) r d).plus 1 := by
  cases obj with
  | false =>
    simp only [Bool.false_eq_true, if_false]
    rw [headK, if_neg (by simp), if_neg (by simp), if_neg (by simp), if_neg (by simp), if_neg (by simp), if_pos (by simp)]
    simp [h0]
  | true =>
    simp only [if_true]
    rw [headK, if_neg (by simp), if_neg (by simp), if_neg (by simp), if_neg (by simp), if_neg (by simp), if_pos (by simp)]
    simp [h0]
theorem par_nest (i : Nat) (r : List UInt8) : parJ i ((i : Int) + 1) (97 :: 34 :: r) [] = ([97], (i : Int) + 3, 0) := by
  have hd : decL (97 :: 34 :: r) = (97, 1) := decL_asc 97 _ (by decide)
  rw [parJ_eq _ _ _ _ (by simp), if_neg (by simp), if_neg (by simp), if_neg (by simp), hd]
  simp only [Nat.succ_ne_zero, if_false, List.drop_succ_cons, List.drop_zero, List.nil_append]
  rw [parJ_eq _ _ _ _ (by simp), if_pos (by simp)]
  rw [Prod.mk.injEq, Prod.mk.injEq]
  exact ⟨by decide, by omega, rfl⟩
theorem key_nest (i : Nat) (r : List UInt8) : keyK i (34 :: 97 :: 34 :: 58 :: r) [] = .ok [97] 4 := by
  unfold keyK
  rw [if_neg (by simp)]
  simp only [List.drop_succ_cons, List.drop_zero, par_nest]
  have e : ((i : Int) + 3 - (i : Int)).toNat = 3 := by omega
  rw [e]
  simp only [List.drop_succ_cons, List.drop_zero]
  rw [spN_no 58 r (by decide)]
  simp [List.isPrefixOf]
theorem list_nest (obj : Bool) (X t : List UInt8) (f fr i d k : Nat) (v : ValD) (hX : spN (X ++ (endB obj :: t)) = 0) (hk : k = X.length) (h : valK f (i + (if obj then 4 else 0)) (X ++ (endB obj :: t)) (d + 1) = .ok v k) :
    listK (f + 1) obj fr [] [] i ((if obj then [34, 97, 34, 58] else []) ++ (X ++ (endB obj :: t))) d = .ok (.mk (kindB obj) false 0 ⟨#[]⟩ (if obj then [] else [v]) (if obj then [.mk (ofBytes [97]) v (i : Nat)] else []) fr) (k + 1 + (if obj then 4 else 0)) := by
  have hd : (X ++ (endB obj :: t)).drop k = endB obj :: t := by rw [hk, List.drop_left]
  have hs : spN (endB obj :: t) = 0 := spN_no _ _ (by cases obj <;> decide)
  cases obj with
  | false =>
    simp only [Bool.false_eq_true, if_false, List.nil_append, Nat.add_zero] at h hX hd hs ⊢
    rw [listK]
    simp only [Bool.false_eq_true, if_false, hX, Nat.add_zero, Nat.zero_add, List.drop_zero, h, hd, hs]
    rw [if_pos (by simp [List.isPrefixOf])]
    rfl
  | true =>
    simp only [if_true] at h hX hd hs ⊢
    have h0 : spN ([34, 97, 34, 58] ++ (X ++ (endB true :: t))) = 0 := spN_no _ _ (by decide)
    have hd2 : ([34, 97, 34, 58] ++ (X ++ (endB true :: t))).drop (4 + k) = endB true :: t := by rw [← List.drop_drop]; exact hd
    have hd4 : ([34, 97, 34, 58] ++ (X ++ (endB true :: t))).drop 4 = X ++ (endB true :: t) := rfl
    have hkn : ∀ i, keyK i ([34, 97, 34, 58] ++ (X ++ (endB true :: t))) [] = .ok [97] 4 := fun i => key_nest i _
    rw [listK]
    simp only [if_true, h0, Nat.add_zero, Nat.zero_add, List.drop_zero, List.map_nil, hkn, hd4, h, hd2, hs]
    rw [if_pos (by simp [List.isPrefixOf])]
    show Jres.ok _ _ = Jres.ok _ _
    rw [show 4 + k + 1 = k + 1 + 4 by omega]
    rfl
theorem list_bad (obj : Bool) (X : List UInt8) (f fr i d : Nat) (a e : Int) (hX : spN X = 0) (h : valK f (i + (if obj then 4 else 0)) X (d + 1) = .err a e) :
    listK (f + 1) obj fr [] [] i ((if obj then [34, 97, 34, 58] else []) ++ X) d = .err a e := by
  cases obj with
  | false =>
    simp only [Bool.false_eq_true, if_false, List.nil_append, Nat.add_zero] at h ⊢
    rw [listK]
    simp only [Bool.false_eq_true, if_false, hX, Nat.add_zero, List.drop_zero, h]
  | true =>
    simp only [if_true] at h ⊢
    have h0 : spN ([34, 97, 34, 58] ++ X) = 0 := spN_no _ _ (by decide)
    have hd4 : ([34, 97, 34, 58] ++ X).drop 4 = X := rfl
    have hkn : ∀ i, keyK i ([34, 97, 34, 58] ++ X) [] = .ok [97] 4 := fun i => key_nest i _
    rw [listK]
    simp only [if_true, h0, Nat.add_zero, Nat.zero_add, List.drop_zero, List.map_nil, hkn, hd4, h]
theorem nest_text (obj : Bool) (j : Nat) (t : List UInt8) : nestJ obj (j + 1) ++ t = (if obj then 123 else 91) :: ((if obj then [34, 97, 34, 58] else []) ++ (nestJ obj j ++ (endB obj :: t))) := by
  rw [nestJ]
  cases obj <;> simp [opJ]
theorem nest_pre (obj : Bool) (j : Nat) (t : List UInt8) : ¬ [endB obj].isPrefixOf ((if obj then [34, 97, 34, 58] else []) ++ (nestJ obj j ++ t)) = true := by
  obtain ⟨r, hr⟩ := nest_head obj j
  rw [hr]
  cases obj <;> simp [List.isPrefixOf, endB]
theorem nest_spq (obj : Bool) (j : Nat) (t : List UInt8) : spN ((if obj then [34, 97, 34, 58] else []) ++ (nestJ obj j ++ t)) = 0 := by
  cases obj with
  | false => exact nest_sp false j t
  | true => exact spN_no _ _ (by decide)
theorem one_depth (obj : Bool) (v : ValD) (a b : Int) : (ValD.mk (kindB obj) false 0 ⟨#[]⟩ (if obj then [] else [v]) (if obj then [.mk (ofBytes [97]) v a] else []) b).depth = v.depth + 1 := by
  cases obj with
  | false =>
    simp only [Bool.false_eq_true, if_false]
    rw [ValD.depth, if_pos (show kindB false = 4 from rfl), vdepths, vdepths, Nat.max_eq_right (Nat.zero_le _)]
  | true =>
    simp only [if_true]
    rw [ValD.depth, if_neg (show ¬ kindB true = 4 by decide), if_pos (show kindB true = 5 from rfl), mdepths, mdepths, mdepth_eq, Nat.max_eq_right (Nat.zero_le _)]
    rfl
theorem one_cnt (obj : Bool) (v : ValD) (a b : Int) : (ValD.mk (kindB obj) false 0 ⟨#[]⟩ (if obj then [] else [v]) (if obj then [.mk (ofBytes [97]) v a] else []) b).cnt = v.cnt + 1 := by
  cases obj with
  | false =>
    simp only [Bool.false_eq_true, if_false]
    rw [ValD.cnt, vcnts, vcnts, mcnts]
    omega
  | true =>
    simp only [if_true]
    rw [ValD.cnt, vcnts, mcnts, mcnts, MemD.cnt]
    omega
theorem nest_ok (obj : Bool) : ∀ (j i d f : Nat) (t : List UInt8), d + j ≤ 100 → 3 * j + 1 ≤ f → ∃ v, headK f i (nestJ obj j ++ t) d = .ok v (nlen obj j) ∧ v.depth = j + 1 ∧ v.cnt = j + 1
  | 0, i, d, f, t, hd, hf => by
    obtain ⟨f, rfl⟩ := Nat.exists_eq_add_of_le hf
    refine ⟨.mk (kindB obj) false 0 ⟨#[]⟩ [] [] i, ?_, ?_, by rw [ValD.cnt]; rfl⟩
    · show headK (3 * 0 + 1 + f) i ((if obj then 123 else 91) :: (endB obj :: t)) d = _
      rw [show 3 * 0 + 1 + f = f + 1 by omega, head_open obj f i d _ (spN_no _ _ (by cases obj <;> decide)), if_neg (by omega), if_pos (by simp [List.isPrefixOf])]
      cases obj <;> rfl
    · rw [ValD.depth]
      cases obj <;> rfl
  | j + 1, i, d, f, t, hd, hf => by
    obtain ⟨f, rfl⟩ := Nat.exists_eq_add_of_le (show 3 ≤ f by omega)
    obtain ⟨v, hv, hD, hC⟩ := nest_ok obj j (i + 1 + (if obj then 4 else 0)) (d + 1) f (endB obj :: t) (by omega) (by omega)
    rw [← val_nest] at hv
    refine ⟨.mk (kindB obj) false 0 ⟨#[]⟩ (if obj then [] else [v]) (if obj then [.mk (ofBytes [97]) v ((i + 1 : Nat) : Int)] else []) i, ?_, ?_, by rw [one_cnt, hC]⟩
    · rw [nest_text, show 3 + f = f + 2 + 1 by omega, head_open obj (f + 2) i d _ (nest_spq obj j _), if_neg (by omega), if_neg (nest_pre obj j _)]
      rw [list_nest obj (nestJ obj j) t (f + 1) i (i + 1) d (nlen obj j) v (nest_sp obj j _) (nest_len obj j).symm hv]
      show Jres.ok _ _ = Jres.ok _ _
      have : 1 + (nlen obj j + 1 + (if obj then 4 else 0)) = nlen obj (j + 1) := by
        unfold nlen
        rw [Nat.succ_mul]
        cases obj
        · show 1 + (2 + j * 2 + 1 + 0) = 2 + (j * 2 + 2); omega
        · show 1 + (2 + j * 6 + 1 + 4) = 2 + (j * 6 + 6); omega
      rw [this]
    · rw [one_depth, hD]
theorem nest_deep (obj : Bool) : ∀ (j i d f : Nat) (t : List UInt8), 100 < d + j → d ≤ 101 → 3 * j + 1 ≤ f → headK f i (nestJ obj j ++ t) d = .err ((i + (101 - d) * (opJ obj).length : Nat) : Int) 9
  | j, i, d, f, t, h1, h2, hf => by
    obtain ⟨f, rfl⟩ := Nat.exists_eq_add_of_le (show 1 ≤ f by omega)
    by_cases h : 100 < d
    · obtain ⟨r, hr⟩ : ∃ r, nestJ obj j ++ t = (if obj then 123 else 91) :: r ∧ spN r = 0 := by
        cases j with
        | zero => exact ⟨_, rfl, spN_no _ _ (by cases obj <;> decide)⟩
        | succ j => exact ⟨_, nest_text obj j t, nest_spq obj j _⟩
      rw [hr.1, Nat.add_comm 1 f, head_open obj f i d r hr.2, if_pos h, show 101 - d = 0 by omega, Nat.zero_mul]
      rfl
    · match j, h1, hf with
      | 0, h1, _ => omega
      | j + 1, h1, hf =>
        obtain ⟨f, rfl⟩ := Nat.exists_eq_add_of_le (show 2 ≤ f by omega)
        have hv := nest_deep obj j (i + 1 + (if obj then 4 else 0)) (d + 1) f (endB obj :: t) (by omega) (by omega) (by omega)
        rw [← val_nest] at hv
        rw [nest_text, show 1 + (2 + f) = f + 2 + 1 by omega, head_open obj (f + 2) i d _ (nest_spq obj j _), if_neg h, if_neg (nest_pre obj j _)]
        rw [list_bad obj (nestJ obj j ++ (endB obj :: t)) (f + 1) i (i + 1) d _ _ (nest_sp obj j _) hv]
        show Jres.err _ _ = Jres.err _ _
        have : i + 1 + (if obj then 4 else 0) + (101 - (d + 1)) * (opJ obj).length = i + (101 - d) * (opJ obj).length := by
          obtain ⟨e, he⟩ : ∃ e, 101 - d = e + 1 := ⟨100 - d, by omega⟩
          rw [he, show 101 - (d + 1) = e by omega, Nat.succ_mul]
          cases obj
          · show i + 1 + 0 + e * 1 = i + (e * 1 + 1); omega
          · show i + 1 + 4 + e * 5 = i + (e * 5 + 5); omega
        rw [this]
theorem nest_bom (obj : Bool) (j : Nat) : ¬ [239, 187, 191].isPrefixOf (nestJ obj j) = true := by
  obtain ⟨r, hr⟩ := nest_head obj j
  rw [hr]
  cases obj <;> simp [List.isPrefixOf]
theorem nest_vA (obj : Bool) (j : Nat) : vA (nestJ obj j) 0 1 = (headK (3 * (nestJ obj j).length + 1) 0 (nestJ obj j) 1).to 0 := by
  have h := val_nest obj j [] (3 * (nestJ obj j).length + 1) 0 1
  rw [List.append_nil] at h
  unfold vA
  rw [List.drop_zero, h]
theorem nlen_ge (obj : Bool) (j : Nat) : j + 2 ≤ nlen obj j := by
  unfold nlen
  cases obj
  · show j + 2 ≤ 2 + j * 2; omega
  · show j + 2 ≤ 2 + j * 6; omega
theorem nest_parse (obj : Bool) (j : Nat) (hj : j + 1 ≤ 100) : ∃ v, parR (nestJ obj j) = (v, ((nestJ obj j).length : Int), 0) ∧ v.depth = j + 1 ∧ v.cnt = j + 1 := by
  have hl := nest_len obj j
  have hg := nlen_ge obj j
  obtain ⟨v, hv, hD, hC⟩ := nest_ok obj j 0 1 (3 * (nestJ obj j).length + 1) [] (by omega) (by omega)
  rw [List.append_nil] at hv
  refine ⟨v, ?_, hD, hC⟩
  unfold parR tA
  rw [if_neg (nest_bom obj j), nest_vA, hv]
  show (match (if spP (nestJ obj j) (0 + nlen obj j) < (nestJ obj j).length then Ares.err (spP (nestJ obj j) (0 + nlen obj j) : Nat) 17 else Ares.ok v (nestJ obj j).length) with | .err a e => (zeroVal, a, e) | .ok v _ => (v, ((nestJ obj j).length : Int), 0)) = _
  rw [if_neg (by rw [spP_end _ _ (by omega)]; omega)]
theorem nest_parse_deep (obj : Bool) (j : Nat) (hj : ¬ j + 1 ≤ 100) : parR (nestJ obj j) = (zeroVal, ((100 * (opJ obj).length : Nat) : Int), 9) := by
  have hl := nest_len obj j
  have hg := nlen_ge obj j
  have hv := nest_deep obj j 0 1 (3 * (nestJ obj j).length + 1) [] (by omega) (by omega) (by omega)
  rw [List.append_nil] at hv
  unfold parR tA
  rw [if_neg (nest_bom obj j), nest_vA, hv, Nat.zero_add]
  rfl
theorem rep_comm (x : UInt8) : ∀ (k : Nat) (t : List UInt8), Lib.repeatL [x] k ++ (x :: t) = x :: (Lib.repeatL [x] k ++ t)
  | 0, t => rfl
  | k + 1, t => by
    rw [Lib.repeatL]
    show x :: (Lib.repeatL [x] k ++ (x :: t)) = x :: (x :: (Lib.repeatL [x] k ++ t))
    rw [rep_comm x k t]
theorem nest_rep (obj : Bool) : ∀ (j : Nat) (t : List UInt8), nestJ obj j ++ t = Lib.repeatL (opJ obj) j ++ ((if obj then 123 else 91) :: endB obj :: (Lib.repeatL [endB obj] j ++ t))
  | 0, t => rfl
  | j + 1, t => by
    rw [nestJ, List.append_assoc, List.append_assoc, nest_rep obj j ([endB obj] ++ t), Lib.repeatL, Lib.repeatL, List.append_assoc]
    show opJ obj ++ (_ ++ (_ :: _ :: (Lib.repeatL [endB obj] j ++ (endB obj :: t)))) = _
    rw [rep_comm]
    rfl
end Go.Proofs.YtanjmdeoikobhaaDoor
end
