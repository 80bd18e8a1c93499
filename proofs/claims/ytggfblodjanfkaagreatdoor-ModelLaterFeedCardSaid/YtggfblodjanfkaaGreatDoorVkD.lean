/- Packed from the texts JsA JsB. -/
import Derived.Test.YtggfblodjanfkaaGreatDoorVkB
import Derived.Test.YtggfblodjanfkaaGreatDoorVkC
import Derived.Lib.ValidU
section
namespace Go.Proofs.YtggfblodjanfkaaGreatDoor
open Go.RowKit
def decL (l : List UInt8) : Nat × Nat := decP (ofBytes l) 0
theorem jb_app (a b : List UInt8) : ofBytes (a ++ b) = ofBytes a ++ ofBytes b := by
  apply ByteArray.ext
  apply Array.toList_inj.1
  rw [ByteArray.data_append, Array.toList_append, ofBytes_list, ofBytes_list, ofBytes_list]
theorem decP_drop (s : ByteArray) (i : Nat) (h : i ≤ s.size) : decP s i = decL (s.data.toList.drop i) := by
  have hsl : s.data.toList.length = s.size := by simp
  have hs : s = ofBytes (s.data.toList.take i) ++ ofBytes (s.data.toList.drop i) := by rw [← jb_app, List.take_append_drop, ofBytes_data]
  have hz : (ofBytes (s.data.toList.take i)).size = i := by rw [ofBytes_size, List.length_take]; omega
  have := dec_right (ofBytes (s.data.toList.take i)) (ofBytes (s.data.toList.drop i)) 0
  rw [← hs, hz, Nat.add_zero] at this
  exact this
theorem decL_ok (l : List UInt8) (h : l ≠ []) : (decL l).2 ≤ l.length ∧ (decL l).2 ≤ 4 ∧ (decL l).1 ≤ 1114111 ∧ ((decL l).2 = 0 → (decL l).1 = 0) := by
  have hl : 0 < l.length := List.length_pos_iff.2 h
  have := decP_ok (ofBytes l) 0 (by rw [ofBytes_size]; exact hl)
  rw [ofBytes_size] at this
  unfold decL
  omega
theorem j_byteZ (l : List UInt8) (i : Nat) (h : i < l.length) : byteZ (ofBytes l) i = ((l[i]).toNat : Int) := by
  rw [byteZ_at _ i (by rw [ofBytes_size]; exact h)]
  simp [ofBytes, ByteArray.getElem_eq_getElem_data]
theorem decL_hit (l : List UInt8) (hl : l ≠ []) (h : (decL l).2 ≠ 0) : ∃ k, 1 ≤ k ∧ k ≤ 4 ∧ k ≤ l.length ∧ hitB (ofBytes l) 0 k = true ∧ (decL l).2 = k ∧ (((decL l).1 : Nat) : Int) = accZ (ofBytes l) 0 (k : Int) (k - 1) := by
  have hz : (ofBytes l).size = l.length := ofBytes_size l
  have hp : 0 < l.length := List.length_pos_iff.2 hl
  obtain ⟨k, h1, h2, h3, hb⟩ : ∃ k, 1 ≤ k ∧ k ≤ 4 ∧ 0 + k ≤ (ofBytes l).size ∧ hitB (ofBytes l) 0 k = true := by
    apply Classical.byContradiction
    intro hno
    apply h
    unfold decL
    rw [dec_miss _ 0 (by omega) fun k h1 h2 h3 => by
      cases hb : hitB (ofBytes l) 0 k
      · rfl
      · exact absurd ⟨k, h1, h2, h3, hb⟩ hno]
  have := dec_hit (ofBytes l) 0 k h1 h2 h3 hb
  exact ⟨k, h1, h2, by omega, hb, this.2, this.1⟩
theorem decL_eb (l : List UInt8) (hl : l ≠ []) (h : (decL l).2 ≠ 0) : eb (((decL l).1 : Nat) : Int) = l.take (decL l).2 := by
  obtain ⟨k, h1, h2, h3, hb, hk, ha⟩ := decL_hit l hl h
  have hz : (ofBytes l).size = l.length := ofBytes_size l
  have he := (hit_iff (ofBytes l) 0 k (by omega)).1 hb
  have hx := extract_bytes (ofBytes l) 0 k (by omega)
  rw [eext, ofBytes_list, ofBytes_list, List.drop_zero, show 0 + k - 0 = k by omega] at hx
  rw [hk, hx, ha]
  unfold eb
  rw [he]
theorem decL_asc (c : UInt8) (t : List UInt8) (hc : c.toNat < 128) : decL (c :: t) = (c.toNat, 1) := by
  have hz : (ofBytes (c :: t)).size = t.length + 1 := ofBytes_size (c :: t)
  have hb : byteZ (ofBytes (c :: t)) 0 = (c.toNat : Int) := j_byteZ (c :: t) 0 (by simp)
  have := dec_hit (ofBytes (c :: t)) 0 1 (by omega) (by omega) (by omega) ((hit1 _ 0 (by omega)).2 (by omega))
  rw [acc1, hb] at this
  unfold decL
  apply Prod.ext
  · have := this.1; simp only; omega
  · exact this.2
theorem eb_cases (r : Int) (hr : 0 ≤ r) : (r < 128 ∧ eb r = [UInt8.ofNat r.toNat]) ∨ (128 ≤ r ∧ ∀ x ∈ eb r, 128 ≤ x.toNat) := by
  rcases Int.lt_or_le r 128 with h | h
  · exact .inl ⟨h, by unfold eb encZ; rw [if_neg (by omega), if_pos h]; rfl⟩
  · refine .inr ⟨h, ?_⟩
    have hb : ∀ n : Int, 128 ≤ n → n < 256 → 128 ≤ (UInt8.ofNat n.toNat).toNat := fun n h1 h2 => by
      rw [UInt8.toNat_ofNat', Nat.mod_eq_of_lt (by omega)]; omega
    unfold eb encZ
    split
    · simp
    · rename_i hn
      rw [if_neg (by omega)]
      split
      · intro x hx
        simp only [List.map_cons, List.map_nil, List.mem_cons, List.not_mem_nil, or_false] at hx
        rcases hx with rfl | rfl
        · exact hb _ (by omega) (by omega)
        · exact hb _ (by omega) (by omega)
      · split
        · intro x hx
          simp only [List.map_cons, List.map_nil, List.mem_cons, List.not_mem_nil, or_false] at hx
          rcases hx with rfl | rfl | rfl
          · exact hb _ (by omega) (by omega)
          · exact hb _ (by omega) (by omega)
          · exact hb _ (by omega) (by omega)
        · intro x hx
          simp only [List.map_cons, List.map_nil, List.mem_cons, List.not_mem_nil, or_false] at hx
          rcases hx with rfl | rfl | rfl | rfl
          · exact hb _ (by omega) (by omega)
          · exact hb _ (by omega) (by omega)
          · exact hb _ (by omega) (by omega)
          · exact hb _ (by omega) (by omega)
theorem decL_high (c : UInt8) (t : List UInt8) (hc : 128 ≤ c.toNat) (h : (decL (c :: t)).2 ≠ 0) : 128 ≤ (decL (c :: t)).1 ∧ ∀ x ∈ (c :: t).take (decL (c :: t)).2, 128 ≤ x.toNat := by
  have he := decL_eb (c :: t) (by simp) h
  rcases eb_cases ((decL (c :: t)).1 : Nat) (by omega) with ⟨h1, h2⟩ | ⟨h1, h2⟩
  · obtain ⟨m, hm⟩ := Nat.exists_eq_succ_of_ne_zero h
    rw [h2, hm, List.take_succ_cons] at he
    have hcc := (List.cons.inj he).1
    rw [← hcc, UInt8.toNat_ofNat'] at hc
    have := Nat.mod_le ((((decL (c :: t)).1 : Nat) : Int).toNat) (2 ^ 8)
    omega
  · exact ⟨by omega, by rw [← he]; exact h2⟩
theorem decL_app (a b : List UInt8) (ha : a ≠ []) (h : (decL a).2 ≠ 0) : decL (a ++ b) = decL a := by
  unfold decL at *
  rw [jb_app]
  exact dec_left (ofBytes a) (ofBytes b) 0 (by rw [ofBytes_size]; exact List.length_pos_iff.2 ha) h
theorem decL_cut (l : List UInt8) (k : Nat) (hl : l ≠ []) (h : (decL l).2 ≠ 0) (hk : (decL l).2 ≤ k) (hkl : k ≤ l.length) : decL (l.take k) = decL l := by
  obtain ⟨j, h1, h2, h3, hb, hj, ha⟩ := decL_hit l hl h
  have e : l = l.take k ++ l.drop k := (List.take_append_drop k l).symm
  have hz : (ofBytes (l.take k)).size = k := by rw [ofBytes_size, List.length_take]; omega
  have hb2 : hitB (ofBytes (l.take k)) 0 j = true := by
    rw [← hit_left (ofBytes (l.take k)) (ofBytes (l.drop k)) 0 j h1 (by omega), ← jb_app, ← e]; exact hb
  have a1 := dec_hit (ofBytes (l.take k)) 0 j h1 h2 (by omega) hb2
  rw [← accZ_left (ofBytes (l.take k)) (ofBytes (l.drop k)) 0 j (j - 1) (by omega), ← jb_app, ← e, ← ha] at a1
  apply Prod.ext
  · have := a1.1; unfold decL at *; omega
  · rw [hj]; exact a1.2
def vaG : Nat → List UInt8 → Bool
  | 0, _ => true
  | f + 1, l => if l = [] then true else if (decL l).2 = 0 then false else vaG f (l.drop (decL l).2)
theorem vaG_more : ∀ (f g : Nat) (l : List UInt8), l.length ≤ f → l.length ≤ g → vaG f l = vaG g l
  | 0, 0, _, _, _ => rfl
  | 0, g + 1, l, h, _ => by
    have : l = [] := List.eq_nil_of_length_eq_zero (by omega)
    rw [this]; rfl
  | f + 1, 0, l, _, h => by
    have : l = [] := List.eq_nil_of_length_eq_zero (by omega)
    rw [this]; rfl
  | f + 1, g + 1, l, h1, h2 => by
    rw [vaG, vaG]
    by_cases hl : l = []
    · rw [if_pos hl, if_pos hl]
    · rw [if_neg hl, if_neg hl]
      by_cases h0 : (decL l).2 = 0
      · rw [if_pos h0, if_pos h0]
      · rw [if_neg h0, if_neg h0]
        have := List.length_pos_iff.2 hl
        exact vaG_more f g _ (by rw [List.length_drop]; omega) (by rw [List.length_drop]; omega)
def vaL (l : List UInt8) : Bool := vaG l.length l
theorem vaL_nil : vaL [] = true := rfl
theorem vaL_eq (l : List UInt8) (hl : l ≠ []) : vaL l = if (decL l).2 = 0 then false else vaL (l.drop (decL l).2) := by
  have hp := List.length_pos_iff.2 hl
  unfold vaL
  obtain ⟨n, hn⟩ : ∃ n, l.length = n + 1 := ⟨l.length - 1, by omega⟩
  rw [hn, vaG, if_neg hl]
  by_cases h0 : (decL l).2 = 0
  · rw [if_pos h0, if_pos h0]
  · rw [if_neg h0, if_neg h0]
    exact vaG_more _ _ _ (by rw [List.length_drop]; omega) (by omega)
theorem validGoD_eq : ∀ (f : Nat) (l : List UInt8), Lib.validGoD f l = vaG f l
  | 0, _ => rfl
  | f + 1, l => by
    rw [Lib.validGoD, vaG]
    by_cases hl : l = []
    · rw [if_pos hl, if_pos hl]
    · rw [if_neg hl, if_neg hl]
      have hd : decL l = if Lib.decodeL l = (65533, 1) then (0, 0) else Lib.decodeL l := rfl
      by_cases h : Lib.decodeL l = (65533, 1)
      · rw [if_pos (by rw [h]; exact ⟨rfl, rfl⟩), hd, if_pos h, if_pos rfl]
      · have hn : ¬ ((Lib.decodeL l).1 = 65533 ∧ (Lib.decodeL l).2 = 1) := fun q => h (Prod.ext q.1 q.2)
        have hw := decodeN_ok ((ofBytes l).size - 0) ((ofBytes l).get! 0).toNat ((ofBytes l).get! (0 + 1)).toNat ((ofBytes l).get! (0 + 2)).toNat ((ofBytes l).get! (0 + 3)).toNat (by rw [ofBytes_size]; exact List.length_pos_iff.2 hl)
        rw [← dec_bytes] at hw
        rw [if_neg hn, hd, if_neg h, if_neg (show ¬ (Lib.decodeL l).2 = 0 from fun e => by have : (Lib.decodeL l).2 = (Utf8.decode (ofBytes l) 0).2 := rfl; omega)]
        exact validGoD_eq f _
theorem validD_eq (l : List UInt8) : Lib.validD l = vaL l := validGoD_eq _ _
theorem va_ind {Q : List UInt8 → Prop} (h0 : Q []) (h1 : ∀ c b, c.toNat < 128 → vaL b = true → Q b → Q (c :: b))
    (h2 : ∀ a b, a ≠ [] → (decL a).2 = a.length → eb ((decL a).1 : Nat) = a → (∀ x ∈ a, 128 ≤ x.toNat) → vaL b = true → Q b → Q (a ++ b)) : ∀ (f : Nat) (l : List UInt8), l.length ≤ f → vaL l = true → Q l
  | _, [], _, _ => h0
  | 0, c :: t, h, _ => by simp at h
  | f + 1, c :: t, h, hv => by
    rw [vaL_eq _ (by simp)] at hv
    by_cases hz : (decL (c :: t)).2 = 0
    · rw [if_pos hz] at hv; cases hv
    · rw [if_neg hz] at hv
      have hok := decL_ok (c :: t) (by simp)
      rcases Nat.lt_or_ge c.toNat 128 with hc | hc
      · rw [decL_asc c t hc] at hv
        exact h1 c t hc hv (va_ind h0 h1 h2 f t (by simpa using h) hv)
      · obtain ⟨he1, he2⟩ := decL_high c t hc hz
        have hcut := decL_cut (c :: t) _ (by simp) hz (Nat.le_refl _) hok.1
        have heb := decL_eb (c :: t) (by simp) hz
        have hlen : ((c :: t).take (decL (c :: t)).2).length = (decL (c :: t)).2 := by rw [List.length_take]; omega
        have hih := va_ind h0 h1 h2 f ((c :: t).drop (decL (c :: t)).2) (by rw [List.length_drop]; omega) hv
        have := h2 ((c :: t).take (decL (c :: t)).2) ((c :: t).drop (decL (c :: t)).2) (fun e => by rw [e] at hlen; simp at hlen; omega) (by rw [hcut, hlen]) (by rw [hcut]; exact heb) he2 hv hih
        rw [List.take_append_drop] at this
        exact this
theorem va_all {Q : List UInt8 → Prop} (h0 : Q []) (h1 : ∀ c b, c.toNat < 128 → vaL b = true → Q b → Q (c :: b))
    (h2 : ∀ a b, a ≠ [] → (decL a).2 = a.length → eb ((decL a).1 : Nat) = a → (∀ x ∈ a, 128 ≤ x.toNat) → vaL b = true → Q b → Q (a ++ b)) (l : List UInt8) (h : vaL l = true) : Q l := va_ind h0 h1 h2 _ l (Nat.le_refl _) h
def letJ (c : Nat) : Nat := if c = 34 ∨ c = 92 then c else if c = 8 then 98 else if c = 9 then 116 else if c = 10 then 110 else if c = 12 then 102 else if c = 13 then 114 else 0
def hexJ (n : Nat) : UInt8 := UInt8.ofNat (if n < 10 then 48 + n else 87 + n)
def itemJ (c : UInt8) : List UInt8 := if letJ c.toNat ≠ 0 then [92, UInt8.ofNat (letJ c.toNat)] else if c.toNat < 32 then [92, 117, 48, 48, hexJ (c.toNat / 16), hexJ (c.toNat % 16)] else [c]
def itemsJ (l : List UInt8) : List UInt8 := l.flatMap itemJ
def quoteJ (l : List UInt8) : List UInt8 := 34 :: (itemsJ l ++ [34])
theorem itemsJ_cons (c : UInt8) (t : List UInt8) : itemsJ (c :: t) = itemJ c ++ itemsJ t := by unfold itemsJ; rw [List.flatMap_cons]
theorem itemsJ_app (a b : List UInt8) : itemsJ (a ++ b) = itemsJ a ++ itemsJ b := by unfold itemsJ; rw [List.flatMap_append]
theorem itemJ_len (c : UInt8) : 1 ≤ (itemJ c).length ∧ (itemJ c).length ≤ 6 := by
  unfold itemJ
  repeat' split
  all_goals simp
theorem itemsJ_len : ∀ l : List UInt8, (itemsJ l).length ≤ 6 * l.length
  | [] => by simp [itemsJ]
  | c :: t => by
    have := itemJ_len c
    have := itemsJ_len t
    rw [itemsJ_cons, List.length_append, List.length_cons]
    omega
theorem itemJ_high (c : UInt8) (h : 128 ≤ c.toNat) : itemJ c = [c] := by
  unfold itemJ letJ
  rw [if_neg (by rw [if_neg (by omega), if_neg (by omega), if_neg (by omega), if_neg (by omega), if_neg (by omega), if_neg (by omega)]; omega), if_neg (by omega)]
theorem itemsJ_high : ∀ a : List UInt8, (∀ x ∈ a, 128 ≤ x.toNat) → itemsJ a = a
  | [], _ => rfl
  | c :: t, h => by rw [itemsJ_cons, itemJ_high c (h c List.mem_cons_self), itemsJ_high t fun x hx => h x (List.mem_cons_of_mem _ hx)]; rfl
def hexV (c : UInt8) : Int := if 48 ≤ c.toNat ∧ c.toNat ≤ 57 then (c.toNat : Int) - 48 else if 97 ≤ c.toNat ∧ c.toNat ≤ 102 then (c.toNat : Int) - 87 else if 65 ≤ c.toNat ∧ c.toNat ≤ 70 then (c.toNat : Int) - 55 else -1
def hexGo : List UInt8 → Int → Int
  | [], a => a
  | c :: l, a => if hexV c = -1 then -1 else hexGo l (a * 16 + hexV c)
def unitL (l : List UInt8) : Int := if 6 ≤ l.length ∧ l.getD 0 0 = 92 ∧ l.getD 1 0 = 117 then hexGo ((l.drop 2).take 4) 0 else -1
def meanJ (c : UInt8) : Int := if c.toNat = 34 ∨ c.toNat = 92 ∨ c.toNat = 47 then (c.toNat : Int) else if c.toNat = 98 then 8 else if c.toNat = 102 then 12 else if c.toNat = 110 then 10 else if c.toNat = 114 then 13 else if c.toNat = 116 then 9 else -1
def seqL (l : List UInt8) : Int × Nat :=
  if meanJ (l.getD 1 0) ≠ -1 then (meanJ (l.getD 1 0), 2)
  else if 55296 ≤ unitL l ∧ unitL l ≤ 56319 then
    (if 56320 ≤ unitL (l.drop 6) ∧ unitL (l.drop 6) ≤ 57343 then (65536 + (unitL l - 55296) * 1024 + (unitL (l.drop 6) - 56320), 12) else (0, 0))
  else if unitL l < 0 ∨ (56320 ≤ unitL l ∧ unitL l ≤ 57343) then (0, 0) else (unitL l, 6)
def parF (a : Int) : Nat → Int → List UInt8 → List UInt8 → List UInt8 × Int × Int
  | 0, _, _, _ => ([], a, 8)
  | f + 1, i, l, out =>
    if l = [] then ([], a, 8)
    else if l.getD 0 0 = 34 then (out, i + 1, 0)
    else if l.getD 0 0 = 92 then (if l.length = 1 then ([], a, 8) else if (seqL l).2 = 0 then ([], i, 16) else parF a f (i + (seqL l).2) (l.drop (seqL l).2) (out ++ eb (seqL l).1))
    else if (l.getD 0 0).toNat < 32 then ([], i, 6)
    else if (decL l).2 = 0 then ([], i, 5) else parF a f (i + (decL l).2) (l.drop (decL l).2) (out ++ eb ((decL l).1 : Nat))
theorem parF_more (a : Int) : ∀ (f g : Nat) (i : Int) (l out : List UInt8), l.length < f → l.length < g → parF a f i l out = parF a g i l out
  | 0, _, _, _, _, h, _ => by omega
  | _, 0, _, _, _, _, h => by omega
  | f + 1, g + 1, i, l, out, h1, h2 => by
    rw [parF, parF]
    by_cases hl : l = []
    · rw [if_pos hl, if_pos hl]
    · have := List.length_pos_iff.2 hl
      rw [if_neg hl, if_neg hl]
      split
      · rfl
      · split
        · split
          · rfl
          · split
            · rfl
            · exact parF_more a f g _ _ _ (by rw [List.length_drop]; omega) (by rw [List.length_drop]; omega)
        · split
          · rfl
          · split
            · rfl
            · exact parF_more a f g _ _ _ (by rw [List.length_drop]; omega) (by rw [List.length_drop]; omega)
def parJ (a i : Int) (l out : List UInt8) : List UInt8 × Int × Int := parF a (l.length + 1) i l out
theorem parJ_eq (a i : Int) (l out : List UInt8) (hl : l ≠ []) : parJ a i l out =
    if l.getD 0 0 = 34 then (out, i + 1, 0)
    else if l.getD 0 0 = 92 then (if l.length = 1 then ([], a, 8) else if (seqL l).2 = 0 then ([], i, 16) else parJ a (i + (seqL l).2) (l.drop (seqL l).2) (out ++ eb (seqL l).1))
    else if (l.getD 0 0).toNat < 32 then ([], i, 6)
    else if (decL l).2 = 0 then ([], i, 5) else parJ a (i + (decL l).2) (l.drop (decL l).2) (out ++ eb ((decL l).1 : Nat)) := by
  have := List.length_pos_iff.2 hl
  unfold parJ
  rw [parF, if_neg hl]
  split
  · rfl
  · split
    · split
      · rfl
      · split
        · rfl
        · exact parF_more a _ _ _ _ _ (by rw [List.length_drop]; omega) (by omega)
    · split
      · rfl
      · split
        · rfl
        · exact parF_more a _ _ _ _ _ (by rw [List.length_drop]; omega) (by omega)
end Go.Proofs.YtggfblodjanfkaaGreatDoor
end
section
namespace Go.Proofs.YtggfblodjanfkaaGreatDoor
open Go.RowKit
theorem getD_cons0 (c : UInt8) (t : List UInt8) : (c :: t).getD 0 0 = c := rfl
theorem parJ_quote (a i : Int) (t out : List UInt8) : parJ a i (34 :: t) out = (out, i + 1, 0) := by
  rw [parJ_eq a i _ out (by simp), getD_cons0, if_pos rfl]
theorem eb_asc (n : Nat) (h : n < 128) : eb (n : Int) = [UInt8.ofNat n] := by
  unfold eb encZ
  rw [if_neg (by omega), if_pos (by omega)]
  rfl
theorem parJ_plain (a i : Int) (c : UInt8) (t out : List UInt8) (h1 : c.toNat ≠ 34) (h2 : c.toNat ≠ 92) (h3 : ¬ c.toNat < 32) (hc : c.toNat < 128) : parJ a i (c :: t) out = parJ a (i + 1) t (out ++ [c]) := by
  rw [parJ_eq a i _ out (by simp), getD_cons0, if_neg (fun e => h1 (by rw [e]; rfl)), if_neg (fun e => h2 (by rw [e]; rfl)), if_neg h3, decL_asc c t hc, if_neg (by simp), eb_asc _ hc, UInt8.ofNat_toNat]
  rfl
theorem seqL_letter (c d : UInt8) (t : List UInt8) (z : Int) (h : meanJ d = z) (hz : z ≠ -1) : seqL (c :: d :: t) = (z, 2) := by
  unfold seqL
  rw [show (c :: d :: t).getD 1 0 = d from rfl, h, if_pos hz]
theorem parJ_letter (a i : Int) (d : UInt8) (t out : List UInt8) (z : Nat) (h : meanJ d = (z : Int)) (hz : z < 128) : parJ a i (92 :: d :: t) out = parJ a (i + 2) t (out ++ [UInt8.ofNat z]) := by
  rw [parJ_eq a i _ out (by simp), getD_cons0, if_neg (by decide), if_pos rfl, if_neg (by simp), seqL_letter 92 d t z h (by omega), if_neg (by simp), eb_asc _ hz]
  rfl
theorem unitL_four (a b c d : UInt8) (t : List UInt8) : unitL (92 :: 117 :: a :: b :: c :: d :: t) = hexGo [a, b, c, d] 0 := by
  unfold unitL
  rw [if_pos ⟨by simp, rfl, rfl⟩]
  rfl
theorem meanJ_u : meanJ 117 = -1 := by decide
theorem seqL_unit (a b c d : UInt8) (t : List UInt8) (n : Int) (h : hexGo [a, b, c, d] 0 = n) (h0 : 0 ≤ n) (hs : ¬ (55296 ≤ n ∧ n ≤ 57343)) : seqL (92 :: 117 :: a :: b :: c :: d :: t) = (n, 6) := by
  unfold seqL
  rw [show (92 :: 117 :: a :: b :: c :: d :: t).getD 1 0 = (117 : UInt8) from rfl, unitL_four, h, if_neg (by rw [meanJ_u]; decide), if_neg (by omega), if_neg (by omega)]
theorem parJ_unit (x i : Int) (a b c d : UInt8) (t out : List UInt8) (n : Int) (h : hexGo [a, b, c, d] 0 = n) (h0 : 0 ≤ n) (hs : ¬ (55296 ≤ n ∧ n ≤ 57343)) : parJ x i (92 :: 117 :: a :: b :: c :: d :: t) out = parJ x (i + 6) t (out ++ eb n) := by
  rw [parJ_eq x i _ out (by simp), getD_cons0, if_neg (by decide), if_pos rfl, if_neg (by simp), seqL_unit a b c d t n h h0 hs, if_neg (by simp)]
  rfl
set_option maxRecDepth 100000 in
theorem item_kinds : ∀ n : Fin 128, ((letJ n.val = 0 ∧ 32 ≤ n.val ∧ n.val ≠ 34 ∧ n.val ≠ 92) ∨ (letJ n.val ≠ 0 ∧ meanJ (UInt8.ofNat (letJ n.val)) = (n.val : Int)) ∨ (letJ n.val = 0 ∧ n.val < 32 ∧ hexGo [48, 48, hexJ (n.val / 16), hexJ (n.val % 16)] 0 = (n.val : Int))) := by decide +kernel
theorem parJ_item (a i : Int) (c : UInt8) (t out : List UInt8) (hc : c.toNat < 128) : parJ a i (itemJ c ++ t) out = parJ a (i + ((itemJ c).length : Nat)) t (out ++ [c]) := by
  rcases item_kinds ⟨c.toNat, hc⟩ with ⟨h1, h2, h3, h4⟩ | ⟨h1, h2⟩ | ⟨h1, h2, h3⟩
  · simp only at h1 h2 h3 h4
    have hi : itemJ c = [c] := by unfold itemJ; rw [if_neg (by rw [h1]; decide), if_neg (by omega)]
    rw [hi]
    exact parJ_plain a i c t out h3 h4 (by omega) hc
  · simp only at h1 h2
    have hi : itemJ c = [92, UInt8.ofNat (letJ c.toNat)] := by unfold itemJ; rw [if_pos h1]
    rw [hi]
    have := parJ_letter a i _ t out c.toNat h2 hc
    rw [UInt8.ofNat_toNat] at this
    exact this
  · simp only at h1 h2 h3
    have hi : itemJ c = [92, 117, 48, 48, hexJ (c.toNat / 16), hexJ (c.toNat % 16)] := by unfold itemJ; rw [if_neg (by rw [h1]; decide), if_pos h2]
    rw [hi]
    have := parJ_unit a i 48 48 _ _ t out _ h3 (by omega) (by omega)
    rw [eb_asc _ hc, UInt8.ofNat_toNat] at this
    exact this
theorem parJ_piece (x i : Int) (a t out : List UInt8) (ha : a ≠ []) (hd : (decL a).2 = a.length) (he : eb ((decL a).1 : Nat) = a) (hh : ∀ y ∈ a, 128 ≤ y.toNat) : parJ x i (a ++ t) out = parJ x (i + (a.length : Nat)) t (out ++ a) := by
  have hp := List.length_pos_iff.2 ha
  have hda := decL_app a t ha (by omega)
  obtain ⟨c, r, rfl⟩ := List.exists_cons_of_ne_nil ha
  have hc := hh c List.mem_cons_self
  rw [parJ_eq x i _ out (by simp), hda, hd, he, List.drop_left, List.cons_append, getD_cons0, if_neg (fun e => by rw [e] at hc; revert hc; decide), if_neg (fun e => by rw [e] at hc; revert hc; decide), if_neg (by omega), if_neg (by simp)]
theorem parJ_items (x : Int) (t : List UInt8) (l : List UInt8) (hv : vaL l = true) : ∀ (i : Int) (out : List UInt8), parJ x i (itemsJ l ++ t) out = parJ x (i + ((itemsJ l).length : Nat)) t (out ++ l) :=
  va_all (Q := fun l => ∀ (i : Int) (out : List UInt8), parJ x i (itemsJ l ++ t) out = parJ x (i + ((itemsJ l).length : Nat)) t (out ++ l))
    (fun i out => by simp [itemsJ])
    (fun c b hc _ ih i out => by
      rw [itemsJ_cons, List.append_assoc, parJ_item x i c _ out hc, ih, List.length_append, List.append_assoc, show i + ((itemJ c).length : Nat) + ((itemsJ b).length : Nat) = i + (((itemJ c).length + (itemsJ b).length : Nat) : Int) by omega]
      rfl)
    (fun a b ha hd he hh _ ih i out => by
      rw [itemsJ_app, itemsJ_high a hh, List.append_assoc, parJ_piece x i a _ out ha hd he hh, ih, List.length_append, List.append_assoc, show i + (a.length : Nat) + ((itemsJ b).length : Nat) = i + ((a.length + (itemsJ b).length : Nat) : Int) by omega]) l hv
theorem quoteJ_len (l : List UInt8) : (quoteJ l).length = (itemsJ l).length + 2 := by unfold quoteJ; simp
end Go.Proofs.YtggfblodjanfkaaGreatDoor
end
