/- Packed from the texts JsA JsB. -/
import Derived.Test.YtkkiklaoljdhhaaGreatDoorYkB
import Derived.Test.YtkkiklaoljdhhaaGreatDoorYkC
import Derived.Lib.ValidU
section
namespace Go.Proofs.YtkkiklaoljdhhaaGreatDoor
open Go.RowKit
def decL (l : List UInt8) : Nat × Nat := decP (ofBytes l) 0
theorem jb_app (a b : List UInt8) : ofBytes (a ++ b) = ofBytes a ++ ofBytes b := by
  apply ByteArray.ext
  apply Array.toList_inj.1
  rw [ByteArray.data_append, Array.toList_append, ofBytes_list, ofBytes_list, ofBytes_list]
theorem decP_drop (s : ByteArray) (i : Nat) (h : i ≤ s.size) : decP s i = decL (s.data.toList.drop i) := by
  have hsl : s.data.toList.length = s.size := by simp
  have hs : s = ofBytes (s.data.toList.take i) ++ ofBytes (s.data.toList.drop i) := by rw [← jb_app, List.take_append_drop, ofBytes_data]
  have hz : (ofBytes (s.data.toList.take i)).size = i := by rw [ofBytes_size, List.length_take]; omega
  have := dec_right (ofBytes (s.data.toList.take i)) (ofBytes (s.data.toList.drop i)) 0
  rw [← hs, hz, Nat.add_zero] at this
  exact this
theorem decL_ok (l : List UInt8) (h : l ≠ []) : (decL l).2 ≤ l.length ∧ (decL l).2 ≤ 4 ∧ (decL l).1 ≤ 1114111 ∧ ((decL l).2 = 0 → (decL l).1 = 0) := by
  have hl : 0 < l.length := List.length_pos_iff.2 h
  have := decP_ok (ofBytes l) 0 (by rw [ofBytes_size]; exact hl)
  rw [ofBytes_size] at this
  unfold decL
  omega
theorem j_byteZ (l : List UInt8) (i : Nat) (h : i < l.length) : byteZ (ofBytes l) i = ((l[i]).toNat : Int) := by
  rw [byteZ_at _ i (by rw [ofBytes_size]; exact h)]
  simp [ofBytes, ByteArray.getElem_eq_getElem_data]
theorem decL_hit (l : List UInt8) (hl : l ≠ []) (h : (decL l).2 ≠ 0) : ∃ k, 1 ≤ k ∧ k ≤ 4 ∧ k ≤ l.length ∧ hitB (ofBytes l) 0 k = true ∧ (decL l).2 = k ∧ (((decL l).1 : Nat) : Int) = accZ (ofBytes l) 0 (k : Int) (k - 1) := by
  have hz : (ofBytes l).size = l.length := ofBytes_size l
  have hp : 0 < l.length := List.length_pos_iff.2 hl
  obtain ⟨k, h1, h2, h3, hb⟩ : ∃ k, 1 ≤ k ∧ k ≤ 4 ∧ 0 + k ≤ (ofBytes l).size ∧ hitB (ofBytes l) 0 k = true := by
    apply Classical.byContradiction
    intro hno
    apply h
    unfold decL
    rw [dec_miss _ 0 (by omega) fun k h1 h2 h3 => by
      cases hb : hitB (ofBytes l) 0 k
      · rfl
      · exact absurd ⟨k, h1, h2, h3, hb⟩ hno]
  have := dec_hit (ofBytes l) 0 k h1 h2 h3 hb
  exact ⟨k, h1, h2, by omega, hb, this.2, this.1⟩
theorem decL_eb (l : List UInt8) (hl : l ≠ []) (h : (decL l).2 ≠ 0) : eb (((decL l).1 : Nat) : Int) = l.take (decL l).2 := by
  obtain ⟨k, h1, h2, h3, hb, hk, ha⟩ := decL_hit l hl h
  have hz : (ofBytes l).size = l.length := ofBytes_size l
  have he := (hit_iff (ofBytes l) 0 k (by omega)).1 hb
  have hx := extract_bytes (ofBytes l) 0 k (by omega)
  rw [eext, ofBytes_list, ofBytes_list, List.drop_zero, show 0 + k - 0 = k by omega] at hx
  rw [hk, hx, ha]
  unfold eb
  rw [he]
theorem decL_asc (c : UInt8) (t : List UInt8) (hc : c.toNat < 128) : decL (c :: t) = (c.toNat, 1) := by
  have hz : (ofBytes (c :: t)).size = t.length + 1 := ofBytes_size (c :: t)
  have hb : byteZ (ofBytes (c :: t)) 0 = (c.toNat : Int) := j_byteZ (c :: t) 0 (by simp)
  have := dec_hit (ofBytes (c :: t)) 0 1 (by omega) (by omega) (by omega) ((hit1 _ 0 (by omega)).2 (by omega))
  rw [acc1, hb] at this
  unfold decL
  apply Prod.ext
  · have := this.1; simp only; omega
  · exact this.2
theorem eb_cases (r : Int) (hr : 0 ≤ r) : (r < 128 ∧ eb r = [UInt8.ofNat r.toNat]) ∨ (128 ≤ r ∧ ∀ x ∈ eb r, 128 ≤ x.toNat) := by
  rcases Int.lt_or_le r 128 with h | h
  · exact .inl ⟨h, by unfold eb encZ; rw [if_neg (by omega), if_pos h]; rfl⟩
  · refine .inr ⟨h, ?_⟩
    have hb : ∀ n : Int, 128 ≤ n → n < 256 → 128 ≤ (UInt8.ofNat n.toNat).toNat := fun n h1 h2 => by
      rw [UInt8.toNat_ofNat', Nat.mod_eq_of_lt (by omega)]; omega
    unfold eb encZ
    split
    · simp
    · rename_i hn
      rw [if_neg (by omega)]
      split
      · intro x hx
        simp only [List.map_cons, List.map_nil, List.mem_cons, List.not_mem_nil, or_false] at hx
        rcases hx with rfl | rfl
        · exact hb _ (by omega) (by omega)
        · exact hb _ (by omega) (by omega)
      · split
        · intro x hx
          simp only [List.map_cons, List.map_nil, List.mem_cons, List.not_mem_nil, or_false] at hx
          rcases hx with rfl | rfl | rfl
          · exact hb _ (by omega) (by omega)
          · exact hb _ (by omega) (by omega)
          · exact hb _ (by omega) (by omega)
        · intro x hx
          simp only [List.map_cons, List.map_nil, List.mem_cons, List.not_mem_nil, or_false] at hx
          rcases hx with rfl | rfl | rfl | rfl
          · exact hb _ (by omega) (by omega)
          · exact hb _ (by omega) (by omega)
          · exact hb _ (by omega) (by omega)
          · exact hb _ (by omega) (by omega)
theorem decL_high (c : UInt8) (t : List UInt8) (hc : 128 ≤ c.toNat) (h : (decL (c :: t)).2 ≠ 0) : 128 ≤ (decL (c :: t)).1 ∧ ∀ x ∈ (c :: t).take (decL (c :: t)).2, 128 ≤ x.toNat := by
  have he := decL_eb (c :: t) (by simp) h
  rcases eb_cases ((decL (c :: t)).1 : Nat) (by omega) with ⟨h1, h2⟩ | ⟨h1, h2⟩
  · obtain ⟨m, hm⟩ := Nat.exists_eq_succ_of_ne_zero h
    rw [h2, hm, List.take_succ_cons] at he
    have hcc := (List.cons.inj he).1
    rw [← hcc, UInt8.toNat_ofNat'] at hc
    have := Nat.mod_le ((((decL (c :: t)).1 : Nat) : Int).toNat) (2 ^ 8)
    omega
  · exact ⟨by omega, by rw [← he]; exact h2⟩
theorem decL_app (a b : List UInt8) (ha : a ≠ []) (h : (decL a).2 ≠ 0) : decL (a ++ b) = decL a := by
  unfold decL at *
  rw [jb_app]
  exact dec_left (ofBytes a) (ofBytes b) 0 (by rw [ofBytes_size]; exact List.length_pos_iff.2 ha) h
theorem decL_cut (l : List UInt8) (k : Nat) (hl : l ≠ []) (h : (decL l).2 ≠ 0) (hk : (decL l).2 ≤ k) (hkl : k ≤ l.length) : decL (l.take k) = decL l := by
  obtain ⟨j, h1, h2, h3, hb, hj, ha⟩ := decL_hit l hl h
  have e : l = l.take k ++ l.drop k := (List.take_append_drop k l).symm
  have hz : (ofBytes (l.take k)).size = k := by rw [ofBytes_size, List.length_take]; omega
  have hb2 : hitB (ofBytes (l.take k)) 0 j = true := by
    rw [← hit_left (ofBytes (l.take k)) (ofBytes (l.drop k)) 0 j h1 (by omega), ← jb_app, ← e]; exact hb
  have a1 := dec_hit (ofBytes (l.take k)) 0 j h1 h2 (by omega) hb2
  rw [← accZ_left (ofBytes (l.take k)) (ofBytes (l.drop k)) 0 j (j - 1) (by omega), ← jb_app, ← e, ← ha] at a1
  apply Prod.ext
  · have := a1.1; unfold decL at *; omega
  · rw [hj]; exact a1.2
def hexV (c : UInt8) : Int := if 48 ≤ c.toNat ∧ c.toNat ≤ 57 then (c.toNat : Int) - 48 else if 97 ≤ c.toNat ∧ c.toNat ≤ 102 then (c.toNat : Int) - 87 else if 65 ≤ c.toNat ∧ c.toNat ≤ 70 then (c.toNat : Int) - 55 else -1
theorem hexV_bd (c : UInt8) : -1 ≤ hexV c ∧ hexV c ≤ 15 := by
  unfold hexV
  repeat' split
  all_goals omega
def hexGo : List UInt8 → Int → Int
  | [], a => a
  | c :: l, a => if hexV c = -1 then -1 else hexGo l (a * 16 + hexV c)
theorem hexGo_bd : ∀ (l : List UInt8) (a b : Int), 0 ≤ a → a < b → -1 ≤ hexGo l a ∧ hexGo l a < b * 16 ^ l.length
  | [], a, b, h0, h1 => by simp [hexGo]; omega
  | c :: l, a, b, h0, h1 => by
    have hv := hexV_bd c
    have hb : 0 ≤ b := by omega
    rw [hexGo, List.length_cons]
    split
    · have : 0 ≤ b * 16 ^ (l.length + 1) := Int.mul_nonneg hb (Int.pow_nonneg (by decide))
      refine ⟨by omega, ?_⟩
      have hp : 0 < (16 : Int) ^ (l.length + 1) := Int.pow_pos (by decide)
      have : 0 < b * 16 ^ (l.length + 1) := Int.mul_pos (by omega) hp
      omega
    · have ih := hexGo_bd l (a * 16 + hexV c) (b * 16) (by omega) (by omega)
      rw [show b * 16 ^ (l.length + 1) = b * 16 * 16 ^ l.length by rw [Int.pow_succ, Int.mul_comm (16 ^ l.length) 16, Int.mul_assoc]]
      exact ih
def unitL (l : List UInt8) : Int := if 6 ≤ l.length ∧ l.getD 0 0 = 92 ∧ l.getD 1 0 = 117 then hexGo ((l.drop 2).take 4) 0 else -1
theorem unitL_bd (l : List UInt8) : -1 ≤ unitL l ∧ unitL l ≤ 65535 := by
  unfold unitL
  split
  · rename_i h
    have := hexGo_bd ((l.drop 2).take 4) 0 1 (by omega) (by omega)
    rw [show ((l.drop 2).take 4).length = 4 by rw [List.length_take, List.length_drop]; omega] at this
    omega
  · omega
theorem unitL_len (l : List UInt8) (h : unitL l ≠ -1) : 6 ≤ l.length := by
  unfold unitL at h
  split at h
  · rename_i h'; exact h'.1
  · exact absurd rfl h
def meanJ (c : UInt8) : Int := if c.toNat = 34 ∨ c.toNat = 92 ∨ c.toNat = 47 then (c.toNat : Int) else if c.toNat = 98 then 8 else if c.toNat = 102 then 12 else if c.toNat = 110 then 10 else if c.toNat = 114 then 13 else if c.toNat = 116 then 9 else -1
def seqL (l : List UInt8) : Int × Nat :=
  if meanJ (l.getD 1 0) ≠ -1 then (meanJ (l.getD 1 0), 2)
  else if 55296 ≤ unitL l ∧ unitL l ≤ 56319 then
    (if 56320 ≤ unitL (l.drop 6) ∧ unitL (l.drop 6) ≤ 57343 then (65536 + (unitL l - 55296) * 1024 + (unitL (l.drop 6) - 56320), 12) else (0, 0))
  else if unitL l < 0 ∨ (56320 ≤ unitL l ∧ unitL l ≤ 57343) then (0, 0) else (unitL l, 6)
theorem seqL_ok (l : List UInt8) (h2 : 2 ≤ l.length) : (seqL l).2 ≤ l.length ∧ (seqL l).2 ≤ 12 ∧ 0 ≤ (seqL l).1 ∧ (seqL l).1 ≤ 1114111 ∧ ¬ (55296 ≤ (seqL l).1 ∧ (seqL l).1 ≤ 57343) ∧ ((seqL l).2 = 0 → (seqL l).1 = 0) := by
  have hu := unitL_bd l
  have hv := unitL_bd (l.drop 6)
  unfold seqL
  split
  · refine ⟨h2, by omega, ?_⟩
    rename_i h
    revert h
    unfold meanJ
    repeat' split
    all_goals (intro h; simp only; omega)
  · split
    · split
      · have h1 := unitL_len (l.drop 6) (by omega)
        rw [List.length_drop] at h1
        simp only; omega
      · simp
    · split
      · simp
      · have h1 := unitL_len l (by omega)
        simp only; omega
def parF (a : Int) : Nat → Int → List UInt8 → List UInt8 → List UInt8 × Int × Int
  | 0, _, _, _ => ([], a, 8)
  | f + 1, i, l, out =>
    if l = [] then ([], a, 8)
    else if l.getD 0 0 = 34 then (out, i + 1, 0)
    else if l.getD 0 0 = 92 then (if l.length = 1 then ([], a, 8) else if (seqL l).2 = 0 then ([], i, 16) else parF a f (i + (seqL l).2) (l.drop (seqL l).2) (out ++ eb (seqL l).1))
    else if (l.getD 0 0).toNat < 32 then ([], i, 6)
    else if (decL l).2 = 0 then ([], i, 5) else parF a f (i + (decL l).2) (l.drop (decL l).2) (out ++ eb ((decL l).1 : Nat))
theorem parF_more (a : Int) : ∀ (f g : Nat) (i : Int) (l out : List UInt8), l.length < f → l.length < g → parF a f i l out = parF a g i l out
  | 0, _, _, _, _, h, _ => by omega
  | _, 0, _, _, _, _, h => by omega
  | f + 1, g + 1, i, l, out, h1, h2 => by
    rw [parF, parF]
    by_cases hl : l = []
    · rw [if_pos hl, if_pos hl]
    · have := List.length_pos_iff.2 hl
      rw [if_neg hl, if_neg hl]
      split
      · rfl
      · split
        · split
          · rfl
          · split
            · rfl
            · exact parF_more a f g _ _ _ (by rw [List.length_drop]; omega) (by rw [List.length_drop]; omega)
        · split
          · rfl
          · split
            · rfl
            · exact parF_more a f g _ _ _ (by rw [List.length_drop]; omega) (by rw [List.length_drop]; omega)
def parJ (a i : Int) (l out : List UInt8) : List UInt8 × Int × Int := parF a (l.length + 1) i l out
theorem parJ_nil (a i : Int) (out : List UInt8) : parJ a i [] out = ([], a, 8) := rfl
theorem parJ_eq (a i : Int) (l out : List UInt8) (hl : l ≠ []) : parJ a i l out =
    if l.getD 0 0 = 34 then (out, i + 1, 0)
    else if l.getD 0 0 = 92 then (if l.length = 1 then ([], a, 8) else if (seqL l).2 = 0 then ([], i, 16) else parJ a (i + (seqL l).2) (l.drop (seqL l).2) (out ++ eb (seqL l).1))
    else if (l.getD 0 0).toNat < 32 then ([], i, 6)
    else if (decL l).2 = 0 then ([], i, 5) else parJ a (i + (decL l).2) (l.drop (decL l).2) (out ++ eb ((decL l).1 : Nat)) := by
  have := List.length_pos_iff.2 hl
  unfold parJ
  rw [parF, if_neg hl]
  split
  · rfl
  · split
    · split
      · rfl
      · split
        · rfl
        · exact parF_more a _ _ _ _ _ (by rw [List.length_drop]; omega) (by omega)
    · split
      · rfl
      · split
        · rfl
        · exact parF_more a _ _ _ _ _ (by rw [List.length_drop]; omega) (by omega)
def parP (l : List UInt8) (a : Int) : List UInt8 × Int × Int := if 0 ≤ a ∧ a < (l.length : Int) ∧ l.getD a.toNat 0 = 34 then parJ a (a + 1) (l.drop (a.toNat + 1)) [] else ([], a, 7)
end Go.Proofs.YtkkiklaoljdhhaaGreatDoor
end
section
namespace Go.Proofs.YtkkiklaoljdhhaaGreatDoor
open Go.RowKit
theorem getD_cons0 (c : UInt8) (t : List UInt8) : (c :: t).getD 0 0 = c := rfl
theorem parJ_quote (a i : Int) (t out : List UInt8) : parJ a i (34 :: t) out = (out, i + 1, 0) := by
  rw [parJ_eq a i _ out (by simp), getD_cons0, if_pos rfl]
theorem eb_asc (n : Nat) (h : n < 128) : eb (n : Int) = [UInt8.ofNat n] := by
  unfold eb encZ
  rw [if_neg (by omega), if_pos (by omega)]
  rfl
theorem parJ_plain (a i : Int) (c : UInt8) (t out : List UInt8) (h1 : c.toNat ≠ 34) (h2 : c.toNat ≠ 92) (h3 : ¬ c.toNat < 32) (hc : c.toNat < 128) : parJ a i (c :: t) out = parJ a (i + 1) t (out ++ [c]) := by
  rw [parJ_eq a i _ out (by simp), getD_cons0, if_neg (fun e => h1 (by rw [e]; rfl)), if_neg (fun e => h2 (by rw [e]; rfl)), if_neg h3, decL_asc c t hc, if_neg (by simp), eb_asc _ hc, UInt8.ofNat_toNat]
  rfl
end Go.Proofs.YtkkiklaoljdhhaaGreatDoor
end
