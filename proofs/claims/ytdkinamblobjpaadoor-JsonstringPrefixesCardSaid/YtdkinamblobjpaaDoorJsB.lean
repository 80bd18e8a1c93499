/- Strings of JSON, plainly: what is quoted is read back; prefixes; sequences with numbers. -/
import Derived.Test.YtdkinamblobjpaaDoorJsA
namespace Go.Proofs.YtdkinamblobjpaaDoor
open Go.RowKit

theorem getD_cons0 (c : UInt8) (t : List UInt8) : (c :: t).getD 0 0 = c := rfl
theorem parJ_quote (a i : Int) (t out : List UInt8) : parJ a i (34 :: t) out = (out, i + 1, 0) := by
  rw [parJ_eq a i _ out (by simp), getD_cons0, if_pos rfl]
theorem eb_asc (n : Nat) (h : n < 128) : eb (n : Int) = [UInt8.ofNat n] := by
  unfold eb encZ
  rw [if_neg (by omega), if_pos (by omega)]
  rfl
theorem parJ_plain (a i : Int) (c : UInt8) (t out : List UInt8) (h1 : c.toNat ≠ 34) (h2 : c.toNat ≠ 92) (h3 : ¬ c.toNat < 32) (hc : c.toNat < 128) : parJ a i (c :: t) out = parJ a (i + 1) t (out ++ [c]) := by
  rw [parJ_eq a i _ out (by simp), getD_cons0, if_neg (fun e => h1 (by rw [e]; rfl)), if_neg (fun e => h2 (by rw [e]; rfl)), if_neg h3, decL_asc c t hc, if_neg (by simp), eb_asc _ hc, UInt8.ofNat_toNat]
  rfl
theorem seqL_letter (c d : UInt8) (t : List UInt8) (z : Int) (h : meanJ d = z) (hz : z ≠ -1) : seqL (c :: d :: t) = (z, 2) := by
  unfold seqL
  rw [show (c :: d :: t).getD 1 0 = d from rfl, h, if_pos hz]
theorem parJ_letter (a i : Int) (d : UInt8) (t out : List UInt8) (z : Nat) (h : meanJ d = (z : Int)) (hz : z < 128) : parJ a i (92 :: d :: t) out = parJ a (i + 2) t (out ++ [UInt8.ofNat z]) := by
  rw [parJ_eq a i _ out (by simp), getD_cons0, if_neg (by decide), if_pos rfl, if_neg (by simp), seqL_letter 92 d t z h (by omega), if_neg (by simp), eb_asc _ hz]
  rfl
theorem hexGo_nat : ∀ (l : List UInt8) (a : Int), 0 ≤ a → hexGo l a ≠ -1 → 0 ≤ hexGo l a
  | [], a, h, _ => h
  | c :: l, a, h, hn => by
    have := hexV_bd c
    rw [hexGo] at hn ⊢
    split at hn
    · exact absurd rfl hn
    · rename_i hc
      rw [if_neg hc]
      exact hexGo_nat l _ (by omega) hn
theorem unitL_four (a b c d : UInt8) (t : List UInt8) : unitL (92 :: 117 :: a :: b :: c :: d :: t) = hexGo [a, b, c, d] 0 := by
  unfold unitL
  rw [if_pos ⟨by simp, rfl, rfl⟩]
  rfl
theorem meanJ_u : meanJ 117 = -1 := by decide
theorem seqL_unit (a b c d : UInt8) (t : List UInt8) (n : Int) (h : hexGo [a, b, c, d] 0 = n) (h0 : 0 ≤ n) (hs : ¬ (55296 ≤ n ∧ n ≤ 57343)) : seqL (92 :: 117 :: a :: b :: c :: d :: t) = (n, 6) := by
  unfold seqL
  rw [show (92 :: 117 :: a :: b :: c :: d :: t).getD 1 0 = (117 : UInt8) from rfl, unitL_four, h, if_neg (by rw [meanJ_u]; decide), if_neg (by omega), if_neg (by omega)]
theorem parJ_unit (x i : Int) (a b c d : UInt8) (t out : List UInt8) (n : Int) (h : hexGo [a, b, c, d] 0 = n) (h0 : 0 ≤ n) (hs : ¬ (55296 ≤ n ∧ n ≤ 57343)) : parJ x i (92 :: 117 :: a :: b :: c :: d :: t) out = parJ x (i + 6) t (out ++ eb n) := by
  rw [parJ_eq x i _ out (by simp), getD_cons0, if_neg (by decide), if_pos rfl, if_neg (by simp), seqL_unit a b c d t n h h0 hs, if_neg (by simp)]
  rfl
set_option maxRecDepth 100000 in
theorem item_kinds : ∀ n : Fin 128, ((letJ n.val = 0 ∧ 32 ≤ n.val ∧ n.val ≠ 34 ∧ n.val ≠ 92) ∨ (letJ n.val ≠ 0 ∧ meanJ (UInt8.ofNat (letJ n.val)) = (n.val : Int)) ∨ (letJ n.val = 0 ∧ n.val < 32 ∧ hexGo [48, 48, hexJ (n.val / 16), hexJ (n.val % 16)] 0 = (n.val : Int))) := by decide +kernel
theorem parJ_item (a i : Int) (c : UInt8) (t out : List UInt8) (hc : c.toNat < 128) : parJ a i (itemJ c ++ t) out = parJ a (i + ((itemJ c).length : Nat)) t (out ++ [c]) := by
  rcases item_kinds ⟨c.toNat, hc⟩ with ⟨h1, h2, h3, h4⟩ | ⟨h1, h2⟩ | ⟨h1, h2, h3⟩
  · simp only at h1 h2 h3 h4
    have hi : itemJ c = [c] := by unfold itemJ; rw [if_neg (by rw [h1]; decide), if_neg (by omega)]
    rw [hi]
    exact parJ_plain a i c t out h3 h4 (by omega) hc
  · simp only at h1 h2
    have hi : itemJ c = [92, UInt8.ofNat (letJ c.toNat)] := by unfold itemJ; rw [if_pos h1]
    rw [hi]
    have := parJ_letter a i _ t out c.toNat h2 hc
    rw [UInt8.ofNat_toNat] at this
    exact this
  · simp only at h1 h2 h3
    have hi : itemJ c = [92, 117, 48, 48, hexJ (c.toNat / 16), hexJ (c.toNat % 16)] := by unfold itemJ; rw [if_neg (by rw [h1]; decide), if_pos h2]
    rw [hi]
    have := parJ_unit a i 48 48 _ _ t out _ h3 (by omega) (by omega)
    rw [eb_asc _ hc, UInt8.ofNat_toNat] at this
    exact this
theorem parJ_piece (x i : Int) (a t out : List UInt8) (ha : a ≠ []) (hd : (decL a).2 = a.length) (he : eb ((decL a).1 : Nat) = a) (hh : ∀ y ∈ a, 128 ≤ y.toNat) : parJ x i (a ++ t) out = parJ x (i + (a.length : Nat)) t (out ++ a) := by
  have hp := List.length_pos_iff.2 ha
  have hda := decL_app a t ha (by omega)
  obtain ⟨c, r, rfl⟩ := List.exists_cons_of_ne_nil ha
  have hc := hh c List.mem_cons_self
  rw [parJ_eq x i _ out (by simp), hda, hd, he, List.drop_left, List.cons_append, getD_cons0, if_neg (fun e => by rw [e] at hc; revert hc; decide), if_neg (fun e => by rw [e] at hc; revert hc; decide), if_neg (by omega), if_neg (by simp)]
/-- What is quoted is read back. -/
theorem parJ_items (x : Int) (t : List UInt8) (l : List UInt8) (hv : vaL l = true) : ∀ (i : Int) (out : List UInt8), parJ x i (itemsJ l ++ t) out = parJ x (i + ((itemsJ l).length : Nat)) t (out ++ l) :=
  va_all (Q := fun l => ∀ (i : Int) (out : List UInt8), parJ x i (itemsJ l ++ t) out = parJ x (i + ((itemsJ l).length : Nat)) t (out ++ l))
    (fun i out => by simp [itemsJ])
    (fun c b hc _ ih i out => by
      rw [itemsJ_cons, List.append_assoc, parJ_item x i c _ out hc, ih, List.length_append, List.append_assoc, show i + ((itemJ c).length : Nat) + ((itemsJ b).length : Nat) = i + (((itemJ c).length + (itemsJ b).length : Nat) : Int) by omega]
      rfl)
    (fun a b ha hd he hh _ ih i out => by
      rw [itemsJ_app, itemsJ_high a hh, List.append_assoc, parJ_piece x i a _ out ha hd he hh, ih, List.length_append, List.append_assoc, show i + (a.length : Nat) + ((itemsJ b).length : Nat) = i + ((a.length + (itemsJ b).length : Nat) : Int) by omega]) l hv
theorem quoteJ_len (l : List UInt8) : (quoteJ l).length = (itemsJ l).length + 2 := by unfold quoteJ; simp
theorem parP_round (l pre post : List UInt8) (hv : vaL l = true) : parP (pre ++ quoteJ l ++ post) (pre.length : Nat) = (l, ((pre.length + (quoteJ l).length : Nat) : Int), 0) := by
  unfold parP
  have e : pre ++ quoteJ l ++ post = pre ++ (34 :: (itemsJ l ++ (34 :: post))) := by unfold quoteJ; simp
  rw [e, Int.toNat_natCast, if_pos ⟨by omega, by rw [List.length_append, List.length_cons]; omega, by rw [List.getD_eq_getElem?_getD, List.getElem?_append_right (Nat.le_refl _), Nat.sub_self]; rfl⟩]
  have hd : (pre ++ (34 :: (itemsJ l ++ (34 :: post)))).drop (pre.length + 1) = itemsJ l ++ (34 :: post) := by
    rw [← List.drop_drop, List.drop_left]; rfl
  rw [hd, parJ_items _ _ l hv, List.nil_append, parJ_quote, quoteJ_len]
  congr 2
  omega

/-! ### prefixes -/
/-- What Parse says of a string that ends too early. -/
def EarlyJ (p : List UInt8 × Int × Int) : Prop := p.1 = [] ∧ ((p.2.2 = 8 ∧ p.2.1 = 0) ∨ ((p.2.2 = 16 ∨ p.2.2 = 5) ∧ 0 < p.2.1))
theorem unitL_short (l : List UInt8) (h : l.length < 6) : unitL l = -1 := by unfold unitL; rw [if_neg (by omega)]
theorem parJ_cut_u (i : Int) (l out : List UInt8) (h0 : l.getD 0 0 = 92) (h1 : l.getD 1 0 = 117) (h2 : 2 ≤ l.length) (h6 : l.length < 6) (hi : 0 < i) : EarlyJ (parJ 0 i l out) := by
  have hne : l ≠ [] := fun e => by rw [e] at h2; simp at h2
  have hs : seqL l = (0, 0) := by
    unfold seqL
    rw [h1, if_neg (by rw [meanJ_u]; decide), unitL_short l h6, if_neg (by omega), if_pos (by omega)]
  rw [parJ_eq 0 i l out hne, h0, if_neg (by decide), if_pos rfl, if_neg (by omega), hs, if_pos rfl]
  exact ⟨rfl, .inr ⟨.inl rfl, hi⟩⟩
theorem parJ_cut_back (i : Int) (out : List UInt8) : EarlyJ (parJ 0 i [92] out) := by
  rw [parJ_eq 0 i _ out (by simp), getD_cons0, if_neg (by decide), if_pos rfl, if_pos (show ([92] : List UInt8).length = 1 from rfl)]
  exact ⟨rfl, .inl ⟨rfl, rfl⟩⟩
theorem parJ_cut_item (i : Int) (c : UInt8) (k : Nat) (out : List UInt8) (h0 : 0 < k) (hk : k < (itemJ c).length) (hi : 0 < i) : EarlyJ (parJ 0 i ((itemJ c).take k) out) := by
  unfold itemJ at hk ⊢
  split
  · rename_i h
    rw [if_pos h] at hk
    obtain rfl : k = 1 := by simp at hk; omega
    exact parJ_cut_back i out
  · rename_i h
    rw [if_neg h] at hk
    split
    · rename_i h'
      rw [if_pos h'] at hk
      rcases (by omega : k = 1 ∨ 2 ≤ k) with rfl | h2
      · exact parJ_cut_back i out
      · obtain ⟨m, rfl⟩ : ∃ m, k = m + 2 := ⟨k - 2, by omega⟩
        simp only [List.length_cons, List.length_nil] at hk
        refine parJ_cut_u i _ out (by simp) (by simp) (by simp) ?_ hi
        rw [List.length_take]; simp only [List.length_cons, List.length_nil]; omega
    · rename_i h'
      rw [if_neg h'] at hk
      simp at hk; omega
theorem parJ_cut_piece (i : Int) (a : List UInt8) (k : Nat) (out : List UInt8) (ha : a ≠ []) (hd : (decL a).2 = a.length) (hh : ∀ y ∈ a, 128 ≤ y.toNat) (h0 : 0 < k) (hk : k < a.length) (hi : 0 < i) : EarlyJ (parJ 0 i (a.take k) out) := by
  have hs := decL_short a k ha h0 (by omega)
  obtain ⟨c, r, rfl⟩ := List.exists_cons_of_ne_nil ha
  have hc := hh c List.mem_cons_self
  obtain ⟨m, rfl⟩ : ∃ m, k = m + 1 := ⟨k - 1, by omega⟩
  rw [List.take_succ_cons] at hs ⊢
  rw [parJ_eq 0 i _ out (by simp), getD_cons0, if_neg (fun e => by rw [e] at hc; revert hc; decide), if_neg (fun e => by rw [e] at hc; revert hc; decide), if_neg (by omega), if_pos hs]
  exact ⟨rfl, .inr ⟨.inr rfl, hi⟩⟩
theorem parJ_prefix (l : List UInt8) (hv : vaL l = true) : ∀ (k : Nat) (i : Int) (out : List UInt8), 0 < i → k ≤ (itemsJ l).length → EarlyJ (parJ 0 i ((itemsJ l).take k) out) :=
  va_all (Q := fun l => ∀ (k : Nat) (i : Int) (out : List UInt8), 0 < i → k ≤ (itemsJ l).length → EarlyJ (parJ 0 i ((itemsJ l).take k) out))
    (fun k i out hi _ => by rw [show (itemsJ ([] : List UInt8)).take k = [] by simp [itemsJ], parJ_nil]; exact ⟨rfl, .inl ⟨rfl, rfl⟩⟩)
    (fun c b hc _ ih k i out hi hk => by
      rw [itemsJ_cons] at hk ⊢
      rw [List.length_append] at hk
      rcases Nat.lt_or_ge k (itemJ c).length with h | h
      · rw [List.take_append_of_le_length (by omega)]
        rcases Nat.eq_zero_or_pos k with rfl | h0
        · rw [List.take_zero, parJ_nil]; exact ⟨rfl, .inl ⟨rfl, rfl⟩⟩
        · exact parJ_cut_item i c k out h0 h hi
      · rw [List.take_append, List.take_of_length_le h, parJ_item 0 i c _ out hc]
        exact ih _ _ _ (by omega) (by omega))
    (fun a b ha hd he hh _ ih k i out hi hk => by
      rw [itemsJ_app, itemsJ_high a hh] at hk ⊢
      rw [List.length_append] at hk
      rcases Nat.lt_or_ge k a.length with h | h
      · rw [List.take_append_of_le_length (by omega)]
        rcases Nat.eq_zero_or_pos k with rfl | h0
        · rw [List.take_zero, parJ_nil]; exact ⟨rfl, .inl ⟨rfl, rfl⟩⟩
        · exact parJ_cut_piece i a k out ha hd hh h0 h hi
      · rw [List.take_append, List.take_of_length_le h, parJ_piece 0 i a _ out ha hd he hh]
        exact ih _ _ _ (by omega) (by omega)) l hv
theorem parP_prefix (l : List UInt8) (hv : vaL l = true) (n : Nat) (h0 : 1 ≤ n) (hn : n < (quoteJ l).length) : EarlyJ (parP ((quoteJ l).take n) 0) := by
  obtain ⟨m, rfl⟩ : ∃ m, n = m + 1 := ⟨n - 1, by omega⟩
  rw [quoteJ_len] at hn
  have e : (quoteJ l).take (m + 1) = 34 :: (itemsJ l).take m := by
    unfold quoteJ
    rw [List.take_succ_cons, List.take_append_of_le_length (by omega)]
  rw [e]
  unfold parP
  rw [if_pos ⟨by omega, by simp, rfl⟩]
  exact parJ_prefix l hv m (0 + 1) [] (by omega) (by omega)

/-! ### sequences with numbers -/
/-- The digit of a number below 16, in lower or in upper case. -/
def digJ (u : Bool) (n : Nat) : UInt8 := UInt8.ofNat (if n < 10 then 48 + n else if u then 55 + n else 87 + n)
theorem hexV_dig : ∀ (u : Bool) (n : Fin 16), hexV (digJ u n.val) = (n.val : Int) := by decide
def numJ (u : Bool) (n : Nat) : List UInt8 := [digJ u (n / 4096), digJ u (n / 256 % 16), digJ u (n / 16 % 16), digJ u (n % 16)]
theorem hexGo_num (u : Bool) (n : Nat) (h : n < 65536) : hexGo (numJ u n) 0 = (n : Int) := by
  have h1 := hexV_dig u ⟨n / 4096, by omega⟩
  have h2 := hexV_dig u ⟨n / 256 % 16, by omega⟩
  have h3 := hexV_dig u ⟨n / 16 % 16, by omega⟩
  have h4 := hexV_dig u ⟨n % 16, by omega⟩
  simp only at h1 h2 h3 h4
  unfold numJ
  simp only [hexGo, h1, h2, h3, h4]
  rw [if_neg (by omega), if_neg (by omega), if_neg (by omega), if_neg (by omega)]
  omega
theorem parP_num (u : Bool) (n : Nat) (h : n < 65536) (hs : ¬ (55296 ≤ n ∧ n ≤ 57343)) : parP (34 :: 92 :: 117 :: (numJ u n ++ [34])) 0 = (eb (n : Int), 8, 0) := by
  unfold parP
  rw [if_pos ⟨by omega, by simp; omega, rfl⟩]
  have := parJ_unit 0 1 (digJ u (n / 4096)) (digJ u (n / 256 % 16)) (digJ u (n / 16 % 16)) (digJ u (n % 16)) [34] [] (n : Int) (hexGo_num u n h) (by omega) (by omega)
  rw [parJ_quote] at this
  exact this
theorem parP_sur (u : Bool) (n : Nat) (h : n < 65536) (hs : 55296 ≤ n ∧ n ≤ 57343) : parP (34 :: 92 :: 117 :: (numJ u n ++ [34])) 0 = ([], 1, 16) := by
  unfold parP
  rw [if_pos ⟨by omega, by simp; omega, rfl⟩]
  have hq : seqL (92 :: 117 :: (numJ u n ++ [34])) = (0, 0) := by
    unfold seqL
    rw [show (92 :: 117 :: (numJ u n ++ [34])).getD 1 0 = (117 : UInt8) from rfl, if_neg (by rw [meanJ_u]; decide), show unitL (92 :: 117 :: (numJ u n ++ [34])) = (n : Int) from (unitL_four _ _ _ _ _).trans (hexGo_num u n h),
      show unitL ((92 :: 117 :: (numJ u n ++ [34])).drop 6) = -1 from unitL_short _ (by simp [numJ])]
    by_cases hh : (n : Int) ≤ 56319
    · rw [if_pos (by omega), if_neg (by omega)]
    · rw [if_neg (by omega), if_pos (by omega)]
  show parJ 0 1 (92 :: 117 :: (numJ u n ++ [34])) [] = _
  rw [parJ_eq _ _ _ _ (by simp), getD_cons0, if_neg (by decide), if_pos rfl, if_neg (by simp), hq, if_pos rfl]
theorem parP_pair (u : Bool) (n : Nat) (h : n < 65536) (hs : 55296 ≤ n ∧ n ≤ 57343) : parP (34 :: 92 :: 117 :: (numJ u n ++ [92, 117, 100, 99, 48, 49, 34])) 0 = if n ≤ 56319 then (eb (65537 + ((n : Int) - 55296) * 1024), 14, 0) else ([], 1, 16) := by
  unfold parP
  rw [if_pos ⟨by omega, by simp; omega, rfl⟩]
  have hq : seqL (92 :: 117 :: (numJ u n ++ [92, 117, 100, 99, 48, 49, 34])) = if n ≤ 56319 then (65537 + ((n : Int) - 55296) * 1024, 12) else (0, 0) := by
    unfold seqL
    rw [show (92 :: 117 :: (numJ u n ++ [92, 117, 100, 99, 48, 49, 34])).getD 1 0 = (117 : UInt8) from rfl, if_neg (by rw [meanJ_u]; decide), show unitL (92 :: 117 :: (numJ u n ++ [92, 117, 100, 99, 48, 49, 34])) = (n : Int) from (unitL_four _ _ _ _ _).trans (hexGo_num u n h),
      show unitL ((92 :: 117 :: (numJ u n ++ [92, 117, 100, 99, 48, 49, 34])).drop 6) = 56321 from (show unitL [92, 117, 100, 99, 48, 49, 34] = 56321 by decide)]
    by_cases hh : n ≤ 56319
    · rw [if_pos (by omega), if_pos (by omega), if_pos hh]
      congr 1
      omega
    · rw [if_neg (by omega), if_pos (by omega), if_neg hh]
  show parJ 0 1 (92 :: 117 :: (numJ u n ++ [92, 117, 100, 99, 48, 49, 34])) [] = _
  rw [parJ_eq _ _ _ _ (by simp), getD_cons0, if_neg (by decide), if_pos rfl, if_neg (by simp), hq]
  by_cases hh : n ≤ 56319
  · rw [if_pos hh, if_pos hh, if_neg (by simp)]
    exact parJ_quote _ _ _ _
  · rw [if_neg hh, if_neg hh, if_pos rfl]
end Go.Proofs.YtdkinamblobjpaaDoor
