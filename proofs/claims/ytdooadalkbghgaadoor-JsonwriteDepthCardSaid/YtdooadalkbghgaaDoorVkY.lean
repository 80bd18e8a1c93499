/- Packed from the texts JwB JwU. -/
import Derived.Test.YtdooadalkbghgaaDoorVJzG
import Derived.Test.YtdooadalkbghgaaDoorVkT
import Derived.Test.YtdooadalkbghgaaDoorVkU
section
namespace Go.Proofs.YtdooadalkbghgaaDoor
open Go.RowKit
theorem back_bytes (s : ByteArray) : ofBytes s.data.toList = s := kstr_ext (by rw [ofBytes_list])
theorem quote_read (i : Nat) (s t : List UInt8) (hv : vaL s = true) : parJ i ((i : Int) + 1) ((quoteJ s ++ t).drop 1) [] = (s, ((i + (quoteJ s).length : Nat) : Int), 0) := by
  have e : (quoteJ s ++ t).drop 1 = itemsJ s ++ (34 :: t) := by unfold quoteJ; simp
  rw [e, parJ_items _ _ s hv, parJ_quote, List.nil_append]
  refine Prod.ext rfl (Prod.ext ?_ rfl)
  show (i : Int) + 1 + _ + 1 = ((i + (quoteJ s).length : Nat) : Int)
  rw [quoteJ_len]
  omega
theorem str_read (i : Nat) (s : ByteArray) (t : List UInt8) (hv : vaL s.data.toList = true) : strK i (quoteJ s.data.toList ++ t) = .ok (leafV 3 false 0 s i) (quoteJ s.data.toList).length := by
  unfold strK
  rw [quote_read i _ t hv, if_neg (by simp)]
  simp only
  rw [back_bytes, show ((i + (quoteJ s.data.toList).length : Nat) : Int) - (i : Int) = ((quoteJ s.data.toList).length : Int) by omega, Int.toNat_natCast]
theorem key_read (i : Nat) (key : ByteArray) (keys : List ByteArray) (t : List UInt8) (hv : vaL key.data.toList = true) (hk : (keys.any fun x => decide (x = key)) = false) : keyK i (quoteJ key.data.toList ++ (58 :: t)) keys = .ok key.data.toList ((quoteJ key.data.toList).length + 1) := by
  have h34 : (quoteJ key.data.toList ++ (58 :: t)).getD 0 0 = 34 := rfl
  unfold keyK
  rw [if_neg (by rw [h34]; simp), quote_read i _ _ hv, if_neg (by simp)]
  simp only
  rw [back_bytes, if_neg (by rw [hk]; simp), show ((i + (quoteJ key.data.toList).length : Nat) : Int) - (i : Int) = ((quoteJ key.data.toList).length : Int) by omega, Int.toNat_natCast, List.drop_left, spN_no 58 t (by decide), Nat.add_zero, List.drop_left, if_pos (by simp [List.isPrefixOf])]
theorem num_read (i : Nat) (n : Int) (t : List UInt8) (h0 : -9223372036854775808 ≤ n) (h1 : n ≤ 9223372036854775807) (ht : Stop t) : numK i (Lib.itoa n ++ t) = .ok (leafV 2 false n ⟨#[]⟩ i) (Lib.itoa n).length := by
  have ht' : t.takeWhile numP = [] := by
    rcases ht with rfl | h
    · rfl
    · cases t with
      | nil => rfl
      | cons c r => rw [List.takeWhile_cons, show numP c = false from h]; rfl
  have e : (Lib.itoa n ++ t).takeWhile numP = Lib.itoa n := by
    rw [List.takeWhile_append_of_pos (itoa_num n), ht', List.append_nil]
  unfold numK
  rw [e, num_itoa n h0 h1]
theorem text_first (v : ValD) (_ : v.okB = true) : ∃ c r, v.text = c :: r ∧ spB c = false ∧ c ≠ 93 ∧ c ≠ 125 := by
  rw [vtext_eq]
  split
  · exact ⟨110, _, rfl, by decide, by decide, by decide⟩
  split
  · unfold boolT
    split
    · exact ⟨116, _, rfl, by decide, by decide, by decide⟩
    · exact ⟨102, _, rfl, by decide, by decide, by decide⟩
  split
  · obtain ⟨c, r, h1, h2⟩ := itoa_head v.n
    refine ⟨c, r, h1, ?_, ?_, ?_⟩
    · have : numP c = true := itoa_num v.n c (by rw [h1]; exact List.mem_cons_self)
      rcases hs : spB c with _ | _
      · rfl
      · rw [space_num c hs] at this
        cases this
    · rintro rfl
      rcases h2 with h2 | h2
      · exact absurd h2 (by decide)
      · exact absurd h2.2 (by decide)
    · rintro rfl
      rcases h2 with h2 | h2
      · exact absurd h2 (by decide)
      · exact absurd h2.2 (by decide)
  split
  · exact ⟨34, _, rfl, by decide, by decide, by decide⟩
  split
  · exact ⟨91, _, rfl, by decide, by decide, by decide⟩
  · exact ⟨123, _, rfl, by decide, by decide, by decide⟩
theorem text_sp (v : ValD) (h : v.okB = true) (t : List UInt8) : spN (v.text ++ t) = 0 := by
  obtain ⟨c, r, h1, h2, -⟩ := text_first v h
  rw [h1, List.cons_append]
  exact spN_no c _ h2
theorem sep_vs (r : List ValD) (h : r ≠ []) : txVs false r = 44 :: txVs true r := by
  cases r with
  | nil => exact absurd rfl h
  | cons k r => rw [txVs, txVs]; rfl
theorem sep_ms (r : List MemD) (h : r ≠ []) : txMs false r = 44 :: txMs true r := by
  cases r with
  | nil => exact absurd rfl h
  | cons k r => rw [txMs, txMs]; rfl
theorem stop_c (c : UInt8) (t : List UInt8) (h : numP c = false) : Stop (c :: t) := .inr h
theorem stop_vs (r : List ValD) (c : UInt8) (t : List UInt8) (h : numP c = false) : Stop (txVs false r ++ (c :: t)) := by
  cases r with
  | nil => rw [txVs]; exact stop_c c t h
  | cons k r => rw [sep_vs _ (by simp), List.cons_append]; exact stop_c 44 _ (by decide)
theorem stop_ms (r : List MemD) (c : UInt8) (t : List UInt8) (h : numP c = false) : Stop (txMs false r ++ (c :: t)) := by
  cases r with
  | nil => rw [txMs]; exact stop_c c t h
  | cons k r => rw [sep_ms _ (by simp), List.cons_append]; exact stop_c 44 _ (by decide)
theorem list_step (obj : Bool) (K X Y : List UInt8) (key : List UInt8) (f fr i d : Nat) (items : List ValD) (mems : List MemD) (v : ValD) (hK : spN (K ++ (X ++ Y)) = 0) (hY : spN Y = 0)
    (hkey : (if obj then keyK i (K ++ (X ++ Y)) (mems.map MemD.key) else Kres.ok [] 0) = .ok key K.length)
    (h : valK f (i + K.length) (X ++ Y) (d + 1) = .ok v X.length) :
    listK (f + 1) obj fr items mems i (K ++ (X ++ Y)) d = if [endB obj].isPrefixOf Y = true then .ok (.mk (kindB obj) false 0 ⟨#[]⟩ (if obj then items else items ++ [v]) (if obj then mems ++ [.mk (ofBytes key) v (i : Nat)] else mems) fr) (K.length + X.length + 1)
      else if [(44 : UInt8)].isPrefixOf Y = true then (listK f obj fr (if obj then items else items ++ [v]) (if obj then mems ++ [.mk (ofBytes key) v (i : Nat)] else mems) (i + (K.length + X.length + 1)) (Y.drop 1) d).plus (K.length + X.length + 1)
      else .err (wrongK (i + (K.length + X.length)) Y).1 (wrongK (i + (K.length + X.length)) Y).2 := by
  have hd1 : (K ++ (X ++ Y)).drop K.length = X ++ Y := List.drop_left
  have hd2 : (K ++ (X ++ Y)).drop (K.length + X.length) = Y := by rw [← List.drop_drop, hd1, List.drop_left]
  have hd3 : (K ++ (X ++ Y)).drop (K.length + X.length + 1) = Y.drop 1 := by rw [← List.drop_drop, hd2]
  rw [listK, hK]
  simp only [Nat.add_zero, Nat.zero_add, List.drop_zero]
  rw [hkey]
  simp only [hd1, h, hd2, hY, Nat.add_zero, hd3]
theorem plus_okB (v : ValD) (k c : Nat) : (Jres.ok v k).plus c = .ok v (c + k) := rfl
theorem head_of (f i d : Nat) (c : UInt8) (r : List UInt8) : headK (f + 1) i (c :: r) d =
    if c = 110 then wordK i (c :: r) [110, 117, 108, 108] 0 false
    else if c = 116 then wordK i (c :: r) [116, 114, 117, 101] 1 true
    else if c = 102 then wordK i (c :: r) [102, 97, 108, 115, 101] 1 false
    else if c = 34 then strK i (c :: r)
    else if c = 91 ∨ c = 123 then
      (if d > 100 then .err i 9
       else if [endB (decide (c = 123))].isPrefixOf ((c :: r).drop (1 + spN r)) = true then .ok (.mk (kindB (decide (c = 123))) false 0 ⟨#[]⟩ [] [] i) (1 + spN r + 1)
       else (listK f (decide (c = 123)) i [] [] (i + (1 + spN r)) ((c :: r).drop (1 + spN r)) d).plus (1 + spN r))
    else if c = 45 ∨ (48 ≤ c.toNat ∧ c.toNat ≤ 57) then numK i (c :: r)
    else .err i 7 := by
  rw [headK, if_neg (by simp)]
  rfl
theorem val_of_head (f i d : Nat) (l : List UInt8) (h : spN l = 0) : valK (f + 1) i l d = headK f i l d := by
  rw [valK, h, Nat.add_zero, List.drop_zero, plus_zero]
theorem leaf_eq (k n : Int) (b : Bool) (s : ByteArray) (a : Int) (i : Nat) : (ValD.mk k b n s [] [] a).eqB false (leafV k b n s i) = true := by
  rw [veq_eq]
  simp [vheadEq, leafV, ValD.kind, ValD.b, ValD.n, ValD.s, ValD.items, ValD.mems, vsEq, msEq]
set_option maxHeartbeats 1000000 in
mutual
theorem text_head : ∀ (v : ValD) (f i d : Nat) (t : List UInt8), v.okB = true → v.R64 → v.depth + d ≤ 101 → Stop t → 3 * (v.text ++ t).length + 1 ≤ f → ∃ v', headK f i (v.text ++ t) d = .ok v' v.text.length ∧ v.eqB false v' = true
  | .mk k b n s items mems a, f, i, d, t, hok, hr, hd, ht, hf => by
    obtain ⟨f, rfl⟩ := Nat.exists_eq_add_of_le (show 1 ≤ f by omega)
    rw [Nat.add_comm 1 f] at hf ⊢
    rw [ValD.okB, Bool.and_eq_true, Bool.and_eq_true, Bool.and_eq_true] at hok
    obtain ⟨hp, hs, hi, hm⟩ := hok
    rw [ValD.R64] at hr
    obtain ⟨⟨r0, r1⟩, ri, rm⟩ := hr
    replace hp : (0 ≤ k ∧ k ≤ 5) ∧ (k = 1 ∨ b = false) ∧ (k = 2 ∨ n = 0) ∧ (k = 3 ∨ s.size = 0) ∧ (k = 4 ∨ items.length = 0) ∧ (k = 5 ∨ mems.length = 0) := of_decide_eq_true hp
    obtain ⟨⟨hk0, hk5⟩, pb, pn, ps, pi, pm⟩ := hp
    rw [ValD.text] at hf ⊢
    have hI : k ≠ 4 → items = [] := fun h => List.length_eq_zero_iff.1 (pi.resolve_left h)
    have hM : k ≠ 5 → mems = [] := fun h => List.length_eq_zero_iff.1 (pm.resolve_left h)
    by_cases k0 : k = 0
    · obtain rfl := hI (by omega)
      obtain rfl := hM (by omega)
      obtain rfl := pb.resolve_left (by omega)
      obtain rfl := pn.resolve_left (by omega)
      obtain rfl := size0 (ps.resolve_left (by omega))
      subst k0
      rw [if_pos rfl]
      refine ⟨leafV 0 false 0 ⟨#[]⟩ i, ?_, leaf_eq _ _ _ _ _ _⟩
      show headK (f + 1) i (110 :: ([117, 108, 108] ++ t)) d = _
      rw [head_of, if_pos rfl, wordK, if_pos (by simp [List.isPrefixOf])]
      rfl
    rw [if_neg k0] at hf ⊢
    by_cases k1 : k = 1
    · obtain rfl := hI (by omega)
      obtain rfl := hM (by omega)
      obtain rfl := pn.resolve_left (by omega)
      obtain rfl := size0 (ps.resolve_left (by omega))
      subst k1
      rw [if_pos rfl]
      refine ⟨leafV 1 b 0 ⟨#[]⟩ i, ?_, leaf_eq _ _ _ _ _ _⟩
      cases b
      · show headK (f + 1) i (102 :: ([97, 108, 115, 101] ++ t)) d = _
        rw [head_of, if_neg (by decide), if_neg (by decide), if_pos rfl, wordK, if_pos (by simp [List.isPrefixOf])]
        rfl
      · show headK (f + 1) i (116 :: ([114, 117, 101] ++ t)) d = _
        rw [head_of, if_neg (by decide), if_pos rfl, wordK, if_pos (by simp [List.isPrefixOf])]
        rfl
    rw [if_neg k1] at hf ⊢
    obtain rfl := pb.resolve_left k1
    by_cases k2 : k = 2
    · obtain rfl := hI (by omega)
      obtain rfl := hM (by omega)
      obtain rfl := size0 (ps.resolve_left (by omega))
      subst k2
      rw [if_pos rfl]
      refine ⟨leafV 2 false n ⟨#[]⟩ i, ?_, leaf_eq _ _ _ _ _ _⟩
      rw [← num_read i n t r0 r1 ht]
      obtain ⟨c, r, hc, hc2⟩ := itoa_head n
      rw [hc, List.cons_append, head_of]
      have hne : ∀ x : UInt8, (x = 45 ∨ (48 ≤ x.toNat ∧ x.toNat ≤ 57)) → x ≠ 110 ∧ x ≠ 116 ∧ x ≠ 102 ∧ x ≠ 34 ∧ ¬ (x = 91 ∨ x = 123) := by
        intro x hx
        refine ⟨?_, ?_, ?_, ?_, ?_⟩
        · rintro rfl; revert hx; decide
        · rintro rfl; revert hx; decide
        · rintro rfl; revert hx; decide
        · rintro rfl; revert hx; decide
        · rintro (rfl | rfl)
          · revert hx; decide
          · revert hx; decide
      obtain ⟨n1, n2, n3, n4, n5⟩ := hne c hc2
      rw [if_neg n1, if_neg n2, if_neg n3, if_neg n4, if_neg n5, if_pos hc2]
    rw [if_neg k2] at hf ⊢
    obtain rfl := pn.resolve_left k2
    by_cases k3 : k = 3
    · obtain rfl := hI (by omega)
      obtain rfl := hM (by omega)
      subst k3
      rw [if_pos rfl]
      refine ⟨leafV 3 false 0 s i, ?_, leaf_eq _ _ _ _ _ _⟩
      rw [← str_read i s t hs]
      unfold quoteJ
      rw [List.cons_append, head_of, if_neg (by decide), if_neg (by decide), if_neg (by decide), if_pos rfl]
    rw [if_neg k3] at hf ⊢
    obtain rfl := size0 (ps.resolve_left k3)
    by_cases k4 : k = 4
    · obtain rfl := hM (by omega)
      subst k4
      rw [if_pos rfl] at hf ⊢
      rw [ValD.depth, if_pos rfl] at hd
      rw [List.cons_append, List.append_assoc] at hf ⊢
      rw [show (91 : UInt8) = (if false = true then 123 else 91) from rfl] at hf ⊢
      by_cases hnil : items = []
      · subst hnil
        refine ⟨.mk 4 false 0 ⟨#[]⟩ [] [] i, ?_, leaf_eq 4 0 false ⟨#[]⟩ a i⟩
        show headK (f + 1) i ((if false = true then 123 else 91) :: (93 :: t)) d = _
        rw [head_open false f i d (93 :: t) (spN_no 93 t (by decide)), if_neg (by omega), if_pos (by simp [List.isPrefixOf, endB])]
        rfl
      · obtain ⟨l', h1, h2, h3⟩ := items_read items hnil f i (i + 1) d t [] hi ri (fun k hk => by
          have := vdepths_in items 0 k hk
          omega) (by
          simp only [List.length_cons, List.length_append] at hf ⊢
          omega)
        refine ⟨.mk 4 false 0 ⟨#[]⟩ l' [] i, ?_, ?_⟩
        · obtain ⟨x, r, rfl⟩ := List.exists_cons_of_ne_nil hnil
          rw [okVs, Bool.and_eq_true] at hi
          obtain ⟨c, q, hc, hc1, hc2, hc3⟩ := text_first x hi.1
          have hsp : spN (txVs true (x :: r) ++ ([93] ++ t)) = 0 := by
            rw [txVs, hc]
            exact spN_no c _ hc1
          rw [head_open false f i d _ hsp, if_neg (by omega), if_neg (by
            rw [txVs, hc]
            simp [sepT, List.isPrefixOf, endB]
            exact fun e => hc2 e.symm)]
          show (listK f false i [] [] (i + 1) (txVs true (x :: r) ++ (93 :: t)) d).plus 1 = _
          rw [h1, plus_okB]
          simp only [List.length_cons, List.length_append, List.length_nil, List.nil_append]
          rw [Nat.add_comm 1]
        · rw [veq_eq]
          simp only [ValD.items, ValD.mems, h2, msEq, Bool.and_true]
          simp [vheadEq, ValD.kind, ValD.b, ValD.n, ValD.s, ValD.items, ValD.mems, h3]
    rw [if_neg k4] at hf ⊢
    obtain rfl := hI k4
    obtain rfl : k = 5 := by omega
    rw [ValD.depth, if_neg (by decide), if_pos rfl] at hd
    rw [List.cons_append, List.append_assoc] at hf ⊢
    rw [show (123 : UInt8) = (if true = true then 123 else 91) from rfl] at hf ⊢
    by_cases hnil : mems = []
    · subst hnil
      refine ⟨.mk 5 false 0 ⟨#[]⟩ [] [] i, ?_, leaf_eq 5 0 false ⟨#[]⟩ a i⟩
      show headK (f + 1) i ((if true = true then 123 else 91) :: (125 :: t)) d = _
      rw [head_open true f i d (125 :: t) (spN_no 125 t (by decide)), if_neg (by omega), if_pos (by simp [List.isPrefixOf, endB])]
      rfl
    · obtain ⟨l', h1, h2, h3⟩ := mems_read mems hnil f i (i + 1) d t [] hm rm (fun k hk => by
        have := mdepths_in mems 0 k hk
        omega) (by
        simp only [List.length_cons, List.length_append] at hf ⊢
        omega)
      refine ⟨.mk 5 false 0 ⟨#[]⟩ [] l' i, ?_, ?_⟩
      · obtain ⟨x, r, rfl⟩ := List.exists_cons_of_ne_nil hnil
        have htx : txMs true (x :: r) ++ ([125] ++ t) = 34 :: ((itemsJ x.key.data.toList ++ [34]) ++ ((58 :: x.v.text) ++ (txMs false r ++ ([125] ++ t)))) := by
          rw [txMs, mtext_eq]
          simp [sepT, quoteJ]
        rw [head_open true f i d _ (by rw [htx]; exact spN_no 34 _ (by decide)), if_neg (by omega), if_neg (by
          rw [htx]
          simp [List.isPrefixOf, endB])]
        show (listK f true i [] [] (i + 1) (txMs true (x :: r) ++ (125 :: t)) d).plus 1 = _
        rw [h1, plus_okB]
        simp only [List.length_cons, List.length_append, List.length_nil, List.nil_append]
        rw [Nat.add_comm 1]
      · rw [veq_eq]
        simp only [ValD.items, ValD.mems, h2, vsEq, Bool.and_true]
        simp [vheadEq, ValD.kind, ValD.b, ValD.n, ValD.s, ValD.items, ValD.mems, h3]
theorem items_read : ∀ (l : List ValD), l ≠ [] → ∀ (f fr i d : Nat) (t : List UInt8) (items : List ValD), okVs l = true → R64s l → (∀ k ∈ l, k.depth + (d + 1) ≤ 101) → 3 * (txVs true l ++ (93 :: t)).length + 3 ≤ f →
    ∃ l', listK f false fr items [] i (txVs true l ++ (93 :: t)) d = .ok (.mk 4 false 0 ⟨#[]⟩ (items ++ l') [] fr) ((txVs true l).length + 1) ∧ vsEq false l l' = true ∧ l'.length = l.length
  | [], h, _, _, _, _, _, _, _, _, _, _ => absurd rfl h
  | k :: r, _, f, fr, i, d, t, items, hok, hr, hd, hf => by
    obtain ⟨f, rfl⟩ := Nat.exists_eq_add_of_le (show 2 ≤ f by omega)
    rw [show 2 + f = f + 1 + 1 by omega] at hf ⊢
    rw [okVs, Bool.and_eq_true] at hok
    rw [R64s] at hr
    have htx : txVs true (k :: r) ++ (93 :: t) = [] ++ (k.text ++ (txVs false r ++ (93 :: t))) := by rw [txVs]; simp [sepT]
    have hlen : (txVs true (k :: r)).length = k.text.length + (txVs false r).length := by rw [txVs]; simp [sepT]
    rw [htx] at hf ⊢
    obtain ⟨v', h1, h2⟩ := text_head k f i (d + 1) (txVs false r ++ (93 :: t)) hok.1 hr.1 (hd k List.mem_cons_self) (stop_vs r 93 t (by decide)) (by simp only [List.nil_append] at hf; omega)
    have hY : spN (txVs false r ++ (93 :: t)) = 0 := by
      cases r with
      | nil => rw [txVs]; exact spN_no 93 t (by decide)
      | cons x y => rw [sep_vs _ (by simp), List.cons_append]; exact spN_no 44 _ (by decide)
    rw [list_step false [] k.text (txVs false r ++ (93 :: t)) [] (f + 1) fr i d items [] v' (text_sp k hok.1 _) hY rfl (by rw [val_of_head _ _ _ _ (text_sp k hok.1 _)]; exact h1)]
    simp only [Bool.false_eq_true, if_false, List.length_nil, Nat.zero_add]
    by_cases hnil : r = []
    · subst hnil
      refine ⟨[v'], ?_, by rw [vsEq, h2, vsEq]; rfl, rfl⟩
      rw [hlen, txVs]
      rw [if_pos (by simp [List.isPrefixOf, endB])]
      rfl
    · obtain ⟨l', h3, h4, h5⟩ := items_read r hnil (f + 1) fr (i + (k.text.length + 1)) d t (items ++ [v']) hok.2 hr.2 (fun x hx => hd x (List.mem_cons_of_mem _ hx)) (by
        rw [sep_vs r hnil] at hf
        simp only [List.length_cons, List.length_append, List.nil_append] at hf ⊢
        omega)
      refine ⟨v' :: l', ?_, by rw [vsEq, h2, h4]; rfl, by rw [List.length_cons, h5, List.length_cons]⟩
      rw [hlen, sep_vs r hnil]
      rw [if_neg (by simp [List.isPrefixOf, endB]), if_pos (by simp [List.isPrefixOf])]
      show (listK (f + 1) false fr (items ++ [v']) [] (i + (k.text.length + 1)) (txVs true r ++ (93 :: t)) d).plus (k.text.length + 1) = _
      rw [h3, plus_okB, List.append_assoc, List.singleton_append, List.length_cons]
      congr 1
      omega
theorem mems_read : ∀ (l : List MemD), l ≠ [] → ∀ (f fr i d : Nat) (t : List UInt8) (mems : List MemD), okMs (mems.map MemD.key) l = true → R64m l → (∀ m ∈ l, m.v.depth + (d + 1) ≤ 101) → 3 * (txMs true l ++ (125 :: t)).length + 3 ≤ f →
    ∃ l', listK f true fr [] mems i (txMs true l ++ (125 :: t)) d = .ok (.mk 5 false 0 ⟨#[]⟩ [] (mems ++ l') fr) ((txMs true l).length + 1) ∧ msEq false l l' = true ∧ l'.length = l.length
  | [], h, _, _, _, _, _, _, _, _, _, _ => absurd rfl h
  | .mk key x a :: r, _, f, fr, i, d, t, mems, hok, hr, hd, hf => by
    obtain ⟨f, rfl⟩ := Nat.exists_eq_add_of_le (show 2 ≤ f by omega)
    rw [show 2 + f = f + 1 + 1 by omega] at hf ⊢
    rw [okMs, Bool.and_eq_true, Bool.and_eq_true, Bool.and_eq_true, MemD.okB] at hok
    simp only [MemD.key, Bool.not_eq_true'] at hok
    obtain ⟨⟨hdup, hkv, hx⟩, hrest⟩ := hok
    rw [R64m, MemD.R64] at hr
    have htx : txMs true (.mk key x a :: r) ++ (125 :: t) = (quoteJ key.data.toList ++ [58]) ++ (x.text ++ (txMs false r ++ (125 :: t))) := by rw [txMs, MemD.text]; simp [sepT]
    have hlen : (txMs true (.mk key x a :: r)).length = (quoteJ key.data.toList ++ [58]).length + x.text.length + (txMs false r).length := by rw [txMs, MemD.text]; simp [sepT]; omega
    rw [htx] at hf ⊢
    have hKl : (quoteJ key.data.toList ++ [58]).length = (quoteJ key.data.toList).length + 1 := by simp
    obtain ⟨v', h1, h2⟩ := text_head x f (i + (quoteJ key.data.toList ++ [58]).length) (d + 1) (txMs false r ++ (125 :: t)) hx hr.1 (hd (.mk key x a) List.mem_cons_self) (stop_ms r 125 t (by decide)) (by simp only [List.length_append] at hf ⊢; omega)
    have hY : spN (txMs false r ++ (125 :: t)) = 0 := by
      cases r with
      | nil => rw [txMs]; exact spN_no 125 t (by decide)
      | cons x y => rw [sep_ms _ (by simp), List.cons_append]; exact spN_no 44 _ (by decide)
    rw [list_step true (quoteJ key.data.toList ++ [58]) x.text (txMs false r ++ (125 :: t)) key.data.toList (f + 1) fr i d [] mems v' (by unfold quoteJ; exact spN_no 34 _ (by decide)) hY (by
      rw [if_pos rfl, List.append_assoc, hKl]
      exact key_read i key _ _ hkv hdup) (by rw [val_of_head _ _ _ _ (text_sp x hx _)]; exact h1)]
    simp only [if_true]
    rw [back_bytes]
    by_cases hnil : r = []
    · subst hnil
      refine ⟨[.mk key v' (i : Nat)], ?_, by rw [msEq, MemD.eqB]; simp [MemD.key, MemD.v, h2, msEq], rfl⟩
      rw [hlen, txMs]
      rw [if_pos (by simp [List.isPrefixOf, endB])]
      rfl
    · obtain ⟨l', h3, h4, h5⟩ := mems_read r hnil (f + 1) fr (i + ((quoteJ key.data.toList ++ [58]).length + x.text.length + 1)) d t (mems ++ [.mk key v' (i : Nat)]) (by rw [List.map_append]; exact hrest) hr.2 (fun x hx => hd x (List.mem_cons_of_mem _ hx)) (by
        rw [sep_ms r hnil] at hf
        simp only [List.length_cons, List.length_append] at hf ⊢
        omega)
      refine ⟨.mk key v' (i : Nat) :: l', ?_, by rw [msEq, h4, MemD.eqB]; simp [MemD.key, MemD.v, h2], by rw [List.length_cons, h5, List.length_cons]⟩
      rw [hlen, sep_ms r hnil]
      rw [if_neg (by simp [List.isPrefixOf, endB]), if_pos (by simp [List.isPrefixOf])]
      show (listK (f + 1) true fr [] (mems ++ [.mk key v' (i : Nat)]) (i + ((quoteJ key.data.toList ++ [58]).length + x.text.length + 1)) (txMs true r ++ (125 :: t)) d).plus ((quoteJ key.data.toList ++ [58]).length + x.text.length + 1) = _
      rw [h3, plus_okB, List.append_assoc, List.singleton_append, List.length_cons]
      congr 1
      omega
end
end Go.Proofs.YtdooadalkbghgaaDoor
end
section
namespace Go.Proofs.YtdooadalkbghgaaDoor
open Go.RowKit
theorem head_out {v w : ValD} (h : vheadEq false v w = true) : v.kind = w.kind ∧ v.b = w.b ∧ v.n = w.n ∧ v.s = w.s ∧ v.items.length = w.items.length ∧ v.mems.length = w.mems.length := by
  have h' : v.kind = w.kind ∧ v.b = w.b ∧ v.n = w.n ∧ v.s = w.s ∧ (false = true → v.at' = w.at') ∧ v.items.length = w.items.length ∧ v.mems.length = w.mems.length := of_decide_eq_true h
  exact ⟨h'.1, h'.2.1, h'.2.2.1, h'.2.2.2.1, h'.2.2.2.2.2.1, h'.2.2.2.2.2.2⟩
theorem head_in {v w : ValD} (h : v.kind = w.kind ∧ v.b = w.b ∧ v.n = w.n ∧ v.s = w.s ∧ v.items.length = w.items.length ∧ v.mems.length = w.mems.length) : vheadEq false v w = true :=
  decide_eq_true ⟨h.1, h.2.1, h.2.2.1, h.2.2.2.1, (fun e => by cases e), h.2.2.2.2.1, h.2.2.2.2.2⟩
mutual
theorem veq_text : ∀ v w : ValD, v.eqB false w = true → v.text = w.text
  | .mk k b n s items mems a, w, h => by
    rw [veq_eq, Bool.and_eq_true, Bool.and_eq_true] at h
    obtain ⟨h1, h2, h3, h4, h5, h6⟩ := head_out h.1
    have hi := vseq_text items w.items h5 h.2.1 true
    have hm := mseq_text mems w.mems h6 h.2.2 true
    rw [vtext_eq, vtext_eq w, ← h1, ← h2, ← h3, ← h4, ← hi, ← hm]
    rfl
theorem vseq_text : ∀ l r : List ValD, l.length = r.length → vsEq false l r = true → ∀ f, txVs f l = txVs f r
  | [], [], _, _, _ => rfl
  | k :: l, x :: y, hl, h, f => by
    rw [vsEq, Bool.and_eq_true] at h
    rw [txVs, txVs, veq_text k x h.1, vseq_text l y (by simpa using hl) h.2]
theorem mseq_text : ∀ l r : List MemD, l.length = r.length → msEq false l r = true → ∀ f, txMs f l = txMs f r
  | [], [], _, _, _ => rfl
  | k :: l, x :: y, hl, h, f => by
    rw [msEq, Bool.and_eq_true] at h
    rw [txMs, txMs, meq_text k x h.1, mseq_text l y (by simpa using hl) h.2]
theorem meq_text : ∀ v w : MemD, v.eqB false w = true → v.text = w.text
  | .mk k v a, w, h => by
    rw [meq_eq, Bool.and_eq_true] at h
    have h1 := (of_decide_eq_true h.1).1
    have h2 := veq_text v w.v h.2
    rw [mtext_eq, mtext_eq, ← h1, ← h2]
    rfl
end
mutual
theorem veq_join : ∀ v w x : ValD, v.eqB false x = true → w.eqB false x = true → v.eqB false w = true
  | .mk k b n s items mems a, w, x, h, g => by
    rw [veq_eq, Bool.and_eq_true, Bool.and_eq_true] at h g ⊢
    obtain ⟨h1, h2, h3, h4, h5, h6⟩ := head_out h.1
    obtain ⟨g1, g2, g3, g4, g5, g6⟩ := head_out g.1
    exact ⟨head_in ⟨h1.trans g1.symm, h2.trans g2.symm, h3.trans g3.symm, h4.trans g4.symm, h5.trans g5.symm, h6.trans g6.symm⟩, vseq_join items w.items x.items h5 g5 h.2.1 g.2.1, mseq_join mems w.mems x.mems h6 g6 h.2.2 g.2.2⟩
theorem vseq_join : ∀ l r x : List ValD, l.length = x.length → r.length = x.length → vsEq false l x = true → vsEq false r x = true → vsEq false l r = true
  | [], _, _, _, _, _, _ => by rw [vsEq]
  | _ :: _, [], _, hl, hr, _, _ => absurd (hl.trans hr.symm) (by simp)
  | k :: l, c :: d, y :: z, hl, hr, h, g => by
    rw [vsEq, Bool.and_eq_true] at h g ⊢
    exact ⟨veq_join k c y h.1 g.1, vseq_join l d z (by simpa using hl) (by simpa using hr) h.2 g.2⟩
theorem mseq_join : ∀ l r x : List MemD, l.length = x.length → r.length = x.length → msEq false l x = true → msEq false r x = true → msEq false l r = true
  | [], _, _, _, _, _, _ => by rw [msEq]
  | _ :: _, [], _, hl, hr, _, _ => absurd (hl.trans hr.symm) (by simp)
  | k :: l, c :: d, y :: z, hl, hr, h, g => by
    rw [msEq, Bool.and_eq_true] at h g ⊢
    exact ⟨meq_join k c y h.1 g.1, mseq_join l d z (by simpa using hl) (by simpa using hr) h.2 g.2⟩
theorem meq_join : ∀ v w x : MemD, v.eqB false x = true → w.eqB false x = true → v.eqB false w = true
  | .mk k v a, w, x, h, g => by
    rw [meq_eq, Bool.and_eq_true] at h g ⊢
    have h1 := (of_decide_eq_true h.1).1
    have g1 := (of_decide_eq_true g.1).1
    exact ⟨decide_eq_true ⟨h1.trans g1.symm, fun e => by cases e⟩, veq_join v w.v x.v h.2 g.2⟩
end
theorem jtext_inj (v w : ValD) (hv : v.okB = true) (hw : w.okB = true) (rv : v.R64) (rw' : w.R64) (dv : v.depth ≤ 100) (dw : w.depth ≤ 100) : decide (v.text = w.text) = v.eqB false w := by
  rcases he : v.eqB false w with _ | _
  · refine decide_eq_false fun e => ?_
    obtain ⟨x, h1, h2⟩ := text_head v (3 * (v.text ++ []).length + 1) 0 1 [] hv rv (by omega) (.inl rfl) (Nat.le_refl _)
    obtain ⟨y, h3, h4⟩ := text_head w (3 * (v.text ++ []).length + 1) 0 1 [] hw rw' (by omega) (.inl rfl) (by rw [e]; exact Nat.le_refl _)
    rw [e] at h1
    rw [← e, e] at h3
    rw [h1] at h3
    obtain ⟨rfl, -⟩ := Jres.ok.inj h3
    rw [veq_join v w x h2 h4] at he
    cases he
  · exact decide_eq_true (veq_text v w he)
end Go.Proofs.YtdooadalkbghgaaDoor
end
