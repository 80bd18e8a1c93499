/- Plain facts of layer 6: the tokens of two documents in sequence. -/
import Derived.Test.YtpphpnkijokffaaGreatDoorTokM
import Derived.Test.YtpphpnkijokffaaGreatDoorTokFa
import Derived.Test.YtpphpnkijokffaaGreatDoorTextM
import Derived.Test.YtpphpnkijokffaaGreatDoorTokS
namespace Go.Proofs.YtpphpnkijokffaaGreatDoor
open Go.RowKit

/-! ### Plain facts of layer 6: what the reference gives does not depend on what stands ahead of a place: a document behind another one. -/
theorem bapp (s t : ByteArray) : (s ++ t).data.toList = s.data.toList ++ t.data.toList := by simp [ByteArray.data_append]
theorem bsl (s : ByteArray) : s.data.toList.length = s.size := by simp
theorem drop_right (l m : List UInt8) (i : Nat) : (l ++ m).drop (l.length + i) = m.drop i := by rw [← List.drop_drop, List.drop_left]
theorem take_right (l m : List UInt8) (j : Nat) : (l ++ m).take (l.length + j) = l ++ m.take j := by
  rw [List.take_append, List.take_of_length_le (by omega), show l.length + j - l.length = j by omega]
theorem getD_right (l m : List UInt8) (i : Nat) : (l ++ m).getD (l.length + i) 0 = m.getD i 0 := by
  rw [List.getD_eq_getElem?_getD, List.getD_eq_getElem?_getD, List.getElem?_append_right (by omega), show l.length + i - l.length = i by omega]
theorem hasP_right (l m : List UInt8) (i : Nat) (x : List UInt8) : hasP (l ++ m) ((l.length + i : Nat) : Int) x = hasP m (i : Int) x := by
  unfold hasP
  rw [Int.toNat_natCast, Int.toNat_natCast, drop_right, decide_eq_true (by omega), decide_eq_true (by omega)]
theorem spP_right (l m : List UInt8) (i : Nat) : spP (l ++ m) (l.length + i) = l.length + spP m i := by
  unfold spP; rw [drop_right]; omega
theorem index_ge : ∀ l t : List UInt8, Lib.index l t = -1 ∨ 0 ≤ Lib.index l t
  | [], t => by rw [Lib.index]; split <;> simp
  | b :: l, t => by
    rw [Lib.index]
    split
    · simp
    · split
      · simp
      · rename_i h
        rcases index_ge l t with h1 | h1
        · rw [h1] at h; simp at h
        · right; omega
theorem nextP_right (l m : List UInt8) (i : Nat) (x : List UInt8) : nextP (l ++ m) (l.length + i) x = if nextP m i x = -1 then -1 else (l.length : Int) + nextP m i x := by
  unfold nextP
  rw [drop_right]
  rcases index_ge (m.drop i) x with h | h
  · rw [if_pos h, if_pos h, if_pos rfl]
  · rw [if_neg (by omega), if_neg (by omega), if_neg (by omega)]
    omega
theorem misP_right (d n : Nat) (i k : Int) : misP (d + n) ((d : Int) + i) ((d : Int) + k) = ((d : Int) + (misP n i k).1, (misP n i k).2) := by
  unfold misP
  by_cases h : (n : Int) ≤ k
  · rw [if_pos h, if_pos (by omega)]
  · rw [if_neg h, if_neg (by omega)]
theorem quoAt_right (l m : List UInt8) (x : UInt8) (e : Nat) : quoAt (l ++ m) x (l.length + e) = l.length + quoAt m x e := by
  unfold quoAt; rw [drop_right]; omega
theorem refAt_right (l m : List UInt8) (i : Nat) : refAt (l ++ m) (l.length + i) = if (refAt m i).2.2 = 0 then ((refAt m i).1, (l.length : Int) + (refAt m i).2.1, 0) else refAt m i := by
  unfold refAt
  rw [show l.length + i + 1 = l.length + (i + 1) by omega, drop_right, List.length_append]
  by_cases h1 : i + 1 + (tw (m.drop (i + 1))).length < m.length
  · rw [if_pos (show l.length + (i + 1) + (tw (m.drop (i + 1))).length < l.length + m.length by omega), if_pos h1]
    by_cases h2 : isCharB (refNum (tw (m.drop (i + 1)))) = true
    · rw [if_pos h2, if_pos h2, if_pos rfl, show ((l.length + (i + 1) + (tw (m.drop (i + 1))).length + 1 : Nat) : Int) = (l.length : Int) + ((i + 1 + (tw (m.drop (i + 1))).length + 1 : Nat) : Int) by omega]
    · rw [if_neg h2, if_neg h2, if_neg (by decide)]
  · rw [if_neg (show ¬ l.length + (i + 1) + (tw (m.drop (i + 1))).length < l.length + m.length by omega), if_neg h1, if_neg (by decide)]
theorem chunk_right (l m : List UInt8) (i j : Nat) : chunk (l ++ m) (l.length + i) (l.length + j) = chunk m i j := by
  unfold chunk
  rw [drop_right, show l.length + j - (l.length + i) = j - i by omega]
/-- Every step takes a byte at least. -/
theorem chunk_pos (l : List UInt8) (i j : Nat) (h : i < j) (hj : j ≤ l.length) (hc : ¬ l.getD i 0 = 38) : 0 < (chunk l i j).length := by
  have hi : i < l.length := by omega
  have hg : l.getD i 0 = l[i] := by rw [List.getD_eq_getElem?_getD, List.getElem?_eq_getElem hi]; rfl
  unfold chunk
  obtain ⟨n, hn⟩ : ∃ n, j - i = n + 1 := ⟨j - i - 1, by omega⟩
  rw [List.drop_eq_getElem_cons hi, hn, List.take_succ_cons, amp_cons _ _ (by rw [← hg]; exact hc), List.length_cons]
  omega
theorem contF_more (l : List UInt8) (j : Nat) (v : Bool) (hj : j ≤ l.length) : ∀ f g i out, j - i < f → j - i < g → contF l j v f i out = contF l j v g i out
  | 0, _, _, _, h, _ => absurd h (by omega)
  | _ + 1, 0, _, _, _, h => absurd h (by omega)
  | f + 1, g + 1, i, out, h, h' => by
    rw [contF, contF]
    by_cases hi : i < j
    · rw [if_pos hi, if_pos hi]
      by_cases hc : l.getD i 0 = 38
      · rw [if_pos hc, if_pos hc]
        rcases refAt_cases (l.take j) i with hr | ⟨r, k, hr, h1, h2, _⟩
        · rw [hr]; rfl
        · rw [hr]
          simp only [if_true, Int.toNat_natCast]
          exact contF_more l j v hj f g k _ (by omega) (by omega)
      · rw [if_neg hc, if_neg hc]
        have := chunk_pos l i j hi hj hc
        exact contF_more l j v hj f g _ _ (by omega) (by omega)
    · rw [if_neg hi, if_neg hi]
theorem contF_right (l m : List UInt8) (j : Nat) (v : Bool) (hj : j ≤ m.length) : ∀ f i out, j - i < f → contF (l ++ m) (l.length + j) v f (l.length + i) out = ((contF m j v f i out).1, (l.length : Int) + (contF m j v f i out).2.1, (contF m j v f i out).2.2)
  | 0, _, _, h => absurd h (by omega)
  | f + 1, i, out, h => by
    have hJ : ((l.length + j : Nat) : Int) = (l.length : Int) + (j : Int) := by omega
    rw [contF, contF]
    by_cases hi : i < j
    · rw [if_pos (show l.length + i < l.length + j by omega), if_pos hi, getD_right, take_right, refAt_right, chunk_right]
      by_cases hc : m.getD i 0 = 38
      · rw [if_pos hc, if_pos hc]
        rcases refAt_cases (m.take j) i with hr | ⟨r, k, hr, h1, h2, _⟩
        · have h12 : ¬ ((12 : Int) = 0) := by decide
          rw [hr]
          simp only [if_neg h12]
          rw [show ((l.length + i : Nat) : Int) = (l.length : Int) + (i : Int) by omega]
        · rw [hr]
          simp only [if_true, Int.toNat_natCast]
          rw [show ((l.length : Int) + (k : Int)).toNat = l.length + k by omega]
          exact contF_right l m j v hj f k (out ++ eb r) (by omega)
      · rw [if_neg hc, if_neg hc, Nat.add_assoc]
        have := chunk_pos m i j hi hj hc
        exact contF_right l m j v hj f (i + (chunk m i j).length) (out ++ spMap v (linesP (chunk m i j))) (by omega)
    · rw [if_neg (show ¬ l.length + i < l.length + j by omega), if_neg hi, hJ]
theorem contP_right (l m : List UInt8) (i j : Nat) (v : Bool) (hj : j ≤ m.length) : contP (l ++ m) (l.length + i) (l.length + j) v = ((contP m i j v).1, (l.length : Int) + (contP m i j v).2.1, (contP m i j v).2.2) := by
  unfold contP
  rw [contF_more (l ++ m) (l.length + j) v (by rw [List.length_append]; omega) _ (j + 1) _ _ (by omega) (by omega)]
  exact contF_right l m j v hj (j + 1) i [] (by omega)

/-! ### names -/
theorem ext_right (p t : ByteArray) (i k : Nat) : (p ++ t).extract (p.size + i) (p.size + k) = t.extract i k := by
  rw [kext, kext, bapp, ← bsl p, drop_right, show p.data.toList.length + k - (p.data.toList.length + i) = k - i by omega]
theorem nmF_more (s : ByteArray) (i : Nat) : ∀ f g k, s.size - k < f → s.size - k < g → nmF s i f k = nmF s i g k
  | 0, _, _, h, _ => absurd h (by omega)
  | _ + 1, 0, _, _, h => absurd h (by omega)
  | f + 1, g + 1, k, h, h' => by
    rw [nmF, nmF]
    by_cases hk : k < s.size
    · rw [if_pos hk, if_pos hk]
      by_cases h0 : (decP s k).2 = 0
      · rw [if_pos h0, if_pos h0]
      · rw [if_neg h0, if_neg h0]
        by_cases hq : isQB (s.extract i (k + (decP s k).2)) = true
        · rw [if_pos hq, if_pos hq]
          exact nmF_more s i f g _ (by omega) (by omega)
        · rw [if_neg hq, if_neg hq]
    · rw [if_neg hk, if_neg hk]
theorem nmF_right (p t : ByteArray) (i : Nat) : ∀ f k, nmF (p ++ t) (p.size + i) f (p.size + k) = p.size + nmF t i f k
  | 0, k => rfl
  | f + 1, k => by
    rw [nmF, nmF, dec_right]
    have hz : (p ++ t).size = p.size + t.size := ByteArray.size_append
    by_cases hk : k < t.size
    · rw [if_pos (by omega), if_pos hk]
      by_cases h0 : (decP t k).2 = 0
      · rw [if_pos h0, if_pos h0]
      · rw [if_neg h0, if_neg h0, Nat.add_assoc, ext_right]
        by_cases hq : isQB (t.extract i (k + (decP t k).2)) = true
        · rw [if_pos hq, if_pos hq]
          exact nmF_right p t i f _
        · rw [if_neg hq, if_neg hq]
    · rw [if_neg (by omega), if_neg hk]
theorem nmP_right (p t : ByteArray) (i : Nat) : nmP (p ++ t) (p.size + i) = p.size + nmP t i := by
  have hz : (p ++ t).size = p.size + t.size := ByteArray.size_append
  unfold nmP
  rw [nmF_more (p ++ t) (p.size + i) _ (t.size + 1) _ (by omega) (by omega), nmF_right]

/-! ### attributes -/
def shI (d : Nat) {α : Type} (x : α × Int × Int) : α × Int × Int := (x.1, (d : Int) + x.2.1, x.2.2)
theorem misP_shI {α : Type} (d n : Nat) (x : α) (i k : Int) : (x, misP (d + n) ((d : Int) + i) ((d : Int) + k)) = shI d (x, misP n i k) := by rw [misP_right]; rfl
theorem attr4_right (p t : ByteArray) (i : Nat) (N : List UInt8) (e : Nat) (_he : e ≤ t.size) (c : List UInt8 × Int × Int) : attr4 (p ++ t) (p.size + i) N (p.size + e) (shI p.size c) = shI p.size (attr4 t i N e c) := by
  have hz : (p ++ t).size = p.size + t.size := ByteArray.size_append
  unfold attr4
  rw [bapp, ← bsl p, getD_right, bsl p, hz]
  by_cases h1 : c.2.2 ≠ 0
  · rw [if_pos (show (shI p.size c).2.2 ≠ 0 from h1), if_pos h1]; rfl
  · rw [if_neg (show ¬ (shI p.size c).2.2 ≠ 0 from h1), if_neg h1]
    by_cases h2 : e = t.size
    · rw [if_pos (by omega), if_pos h2]
      unfold shI
      simp only
      rw [show ((p.size + i : Nat) : Int) = (p.size : Int) + (i : Int) by omega]
    · rw [if_neg (by omega), if_neg h2]
      by_cases h3 : t.data.toList.getD e 0 = 60
      · rw [if_pos h3, if_pos h3]
        unfold shI
        simp only
        rw [show ((p.size + e : Nat) : Int) = (p.size : Int) + (e : Int) by omega]
      · rw [if_neg h3, if_neg h3]
        unfold shI
        simp only
        rw [show ((p.size + e : Nat) : Int) + 1 = (p.size : Int) + ((e : Int) + 1) by omega]
theorem quoAt_le (l : List UInt8) (x : UInt8) (e : Nat) (h : e ≤ l.length) : e ≤ quoAt l x e ∧ quoAt l x e ≤ l.length := by
  unfold quoAt
  have := (List.takeWhile_prefix (fun c => c != x && c != 60) (l := l.drop e)).length_le
  rw [List.length_drop] at this
  omega
theorem attr3_right (p t : ByteArray) (i : Nat) (N : List UInt8) (m e : Nat) (he : e ≤ t.size) : attr3 (p ++ t) (p.size + i) N (p.size + m) (p.size + e) = shI p.size (attr3 t i N m e) := by
  unfold attr3
  have := contP_right p.data.toList t.data.toList (m + 1) e true (by rw [bsl]; exact he)
  rw [bsl] at this
  rw [bapp, Nat.add_assoc, this]
  exact attr4_right p t i N e he _
theorem attr2_right (p t : ByteArray) (i : Nat) (N : List UInt8) (m : Nat) : attr2 (p ++ t) (p.size + i) N (p.size + m) = shI p.size (attr2 t i N m) := by
  have hz : (p ++ t).size = p.size + t.size := ByteArray.size_append
  unfold attr2
  have e1 := hasP_right p.data.toList t.data.toList m [34]
  have e2 := hasP_right p.data.toList t.data.toList m [39]
  rw [bsl] at e1 e2
  have f1 := quoAt_right p.data.toList t.data.toList 34 (m + 1)
  have f2 := quoAt_right p.data.toList t.data.toList 39 (m + 1)
  rw [bsl] at f1 f2
  rw [bapp, e1, e2, Nat.add_assoc, f1, f2]
  by_cases h1 : hasP t.data.toList (m : Int) [34] = true
  · obtain ⟨hm, _⟩ := hasP_one _ _ _ h1
    rw [if_pos h1, if_pos h1]
    have := quoAt_le t.data.toList 34 (m + 1) (by omega)
    rw [bsl] at this
    exact attr3_right p t i N m _ this.2
  · rw [if_neg h1, if_neg h1]
    by_cases h2 : hasP t.data.toList (m : Int) [39] = true
    · obtain ⟨hm, _⟩ := hasP_one _ _ _ h2
      rw [if_pos h2, if_pos h2]
      have := quoAt_le t.data.toList 39 (m + 1) (by omega)
      rw [bsl] at this
      exact attr3_right p t i N m _ this.2
    · rw [if_neg h2, if_neg h2, hz, show ((p.size + i : Nat) : Int) = (p.size : Int) + (i : Int) by omega, show ((p.size + m : Nat) : Int) = (p.size : Int) + (m : Int) by omega]
      exact misP_shI _ _ _ _ _
theorem attr1_right (p t : ByteArray) (i : Nat) (N : List UInt8) (k : Nat) : attr1 (p ++ t) (p.size + i) N (p.size + k) = shI p.size (attr1 t i N k) := by
  have hz : (p ++ t).size = p.size + t.size := ByteArray.size_append
  unfold attr1
  have e1 := hasP_right p.data.toList t.data.toList k [61]
  have e2 := spP_right p.data.toList t.data.toList (k + 1)
  rw [bsl] at e1 e2
  rw [bapp, e1, Nat.add_assoc, e2]
  by_cases h1 : hasP t.data.toList (k : Int) [61] = true
  · rw [if_pos h1, if_pos h1]
    exact attr2_right p t i N _
  · rw [if_neg h1, if_neg h1, hz, show ((p.size + i : Nat) : Int) = (p.size : Int) + (i : Int) by omega, show ((p.size + k : Nat) : Int) = (p.size : Int) + (k : Int) by omega]
    exact misP_shI _ _ _ _ _
theorem attrP_right (p t : ByteArray) (i a : Nat) : attrP (p ++ t) (p.size + i) (p.size + a) = shI p.size (attrP t i a) := by
  have hz : (p ++ t).size = p.size + t.size := ByteArray.size_append
  unfold attrP
  have e1 := spP_right p.data.toList t.data.toList (nmP t a)
  have e2 := drop_right p.data.toList t.data.toList a
  rw [bsl] at e1 e2
  rw [bapp, nmP_right, e1, e2, show p.size + nmP t a - (p.size + a) = nmP t a - a by omega]
  by_cases h1 : nmP t a = a
  · rw [if_pos (by omega), if_pos h1, hz, show ((p.size + i : Nat) : Int) = (p.size : Int) + (i : Int) by omega, show ((p.size + a : Nat) : Int) = (p.size : Int) + (a : Int) by omega]
    exact misP_shI _ _ _ _ _
  · rw [if_neg (by omega), if_neg h1]
    exact attr1_right p t i _ _
/-! ### Plain facts of layer 6: a construct and the tokens of a document that stands behind another one. -/
def shA (d : Nat) (x : AttrD) : AttrD := { x with at' := (d : Int) + x.at' }
def shR (d : Nat) (R : StartR) : StartR := ⟨R.nm, R.al.map (shA d), R.em, (d : Int) + R.p1, R.p2⟩
theorem startGo_right (p t : ByteArray) (i : Nat) (N : List UInt8) : ∀ f a acc, t.size - a < f → a ≤ t.size → startGo (p ++ t) (p.size + i) N f (p.size + a) (acc.map (shA p.size)) = shR p.size (startGo t i N f a acc)
  | 0, _, _, h, _ => absurd h (by omega)
  | f + 1, a, acc, h, ha => by
    have hz : (p ++ t).size = p.size + t.size := ByteArray.size_append
    have e1 := spP_right p.data.toList t.data.toList a
    have e2 := hasP_right p.data.toList t.data.toList (spP t.data.toList a) [62]
    have e3 := hasP_right p.data.toList t.data.toList (spP t.data.toList a) [47, 62]
    have e4 := hasP_right p.data.toList t.data.toList (spP t.data.toList a) [47]
    rw [bsl] at e1 e2 e3 e4
    have e5 := attrP_right p t i (spP t.data.toList a)
    have hsb := spP_le t.data.toList a (by rw [bsl]; exact ha)
    rw [bsl] at hsb
    have hi : ((p.size + i : Nat) : Int) = (p.size : Int) + (i : Int) := by omega
    have hx : ((p.size + spP t.data.toList a : Nat) : Int) = (p.size : Int) + (spP t.data.toList a : Nat) := by omega
    rw [startGo, startGo, bapp, e1, e2, e3, e4, e5, hz]
    by_cases h1 : hasP t.data.toList (spP t.data.toList a : Nat) [62] = true
    · rw [if_pos h1, if_pos h1]
      unfold shR
      rw [hx, Int.add_assoc]
    rw [if_neg h1, if_neg h1]
    by_cases h2 : hasP t.data.toList (spP t.data.toList a : Nat) [47, 62] = true
    · rw [if_pos h2, if_pos h2]
      unfold shR
      rw [hx, Int.add_assoc]
    rw [if_neg h2, if_neg h2]
    by_cases h3 : hasP t.data.toList (spP t.data.toList a : Nat) [47] = true
    · rw [if_pos h3, if_pos h3, hi, hx, Int.add_assoc, misP_right]; rfl
    rw [if_neg h3, if_neg h3]
    by_cases h4 : spP t.data.toList a = a
    · rw [if_pos (by omega), if_pos h4, hi, show ((p.size + a : Nat) : Int) = (p.size : Int) + (a : Int) by omega, misP_right]; rfl
    rw [if_neg (by omega), if_neg h4]
    by_cases h5 : (attrP t i (spP t.data.toList a)).2.2 ≠ 0
    · rw [if_pos (show (shI p.size (attrP t i (spP t.data.toList a))).2.2 ≠ 0 from h5), if_pos h5]; rfl
    rw [if_neg (show ¬ (shI p.size (attrP t i (spP t.data.toList a))).2.2 ≠ 0 from h5), if_neg h5]
    have hex : (∃ x ∈ acc.map (shA p.size), x.nm = ofBytes (shI p.size (attrP t i (spP t.data.toList a))).1.1) ↔ ∃ x ∈ acc, x.nm = ofBytes (attrP t i (spP t.data.toList a)).1.1 := by
      constructor
      · rintro ⟨x, hx, he⟩
        obtain ⟨y, hy, rfl⟩ := List.mem_map.1 hx
        exact ⟨y, hy, he⟩
      · rintro ⟨x, hx, he⟩
        exact ⟨shA p.size x, List.mem_map.2 ⟨x, hx, rfl⟩, he⟩
    by_cases h6 : ∃ x ∈ acc, x.nm = ofBytes (attrP t i (spP t.data.toList a)).1.1
    · rw [if_pos (hex.2 h6), if_pos h6]
      unfold shR
      rw [hx]
    rw [if_neg (fun q => h6 (hex.1 q)), if_neg h6]
    obtain ⟨z, hzz, hz1, hz2⟩ := attrP_ok t i (spP t.data.toList a) hsb.2 (by simpa using h5)
    have ih := startGo_right p t i N f z (acc ++ [attrOf (attrP t i (spP t.data.toList a)).1.1 (attrP t i (spP t.data.toList a)).1.2 (spP t.data.toList a)]) (by omega) hz2
    rw [show (shI p.size (attrP t i (spP t.data.toList a))).2.1.toNat = p.size + z by unfold shI; simp only; rw [hzz]; omega, hzz, Int.toNat_natCast, ← ih, List.map_append]
    simp only [List.map_cons, List.map_nil, shA, attrOf, shI]
    rw [hx]
theorem startGo_more (s : ByteArray) (i : Nat) (N : List UInt8) : ∀ f g a acc, s.size - a < f → s.size - a < g → a ≤ s.size → startGo s i N f a acc = startGo s i N g a acc
  | 0, _, _, _, h, _, _ => absurd h (by omega)
  | _ + 1, 0, _, _, _, h, _ => absurd h (by omega)
  | f + 1, g + 1, a, acc, h, h', ha => by
    have hsb := spP_le s.data.toList a (by rw [bsl]; exact ha)
    rw [bsl] at hsb
    rw [startGo, startGo]
    by_cases h5 : (attrP s i (spP s.data.toList a)).2.2 ≠ 0
    · rw [if_pos h5, if_pos h5]
    rw [if_neg h5, if_neg h5]
    obtain ⟨z, hzz, hz1, hz2⟩ := attrP_ok s i (spP s.data.toList a) hsb.2 (by simpa using h5)
    rw [hzz, Int.toNat_natCast, startGo_more s i N f g z _ (by omega) (by omega) hz2]
theorem startP_right (p t : ByteArray) (i : Nat) (hi : i + 1 ≤ t.size) : startP (p ++ t) (p.size + i) = shR p.size (startP t i) := by
  have hz : (p ++ t).size = p.size + t.size := ByteArray.size_append
  have hb := nmP_le t (i + 1) hi
  have e2 := drop_right p.data.toList t.data.toList (i + 1)
  rw [bsl] at e2
  unfold startP
  rw [Nat.add_assoc, nmP_right, bapp, e2, show p.size + nmP t (i + 1) - (p.size + (i + 1)) = nmP t (i + 1) - (i + 1) by omega]
  by_cases h1 : nmP t (i + 1) = i + 1
  · rw [if_pos (by omega), if_pos h1, hz, show ((p.size + i : Nat) : Int) = (p.size : Int) + (i : Int) by omega, show ((p.size + (i + 1) : Nat) : Int) = (p.size : Int) + ((i + 1 : Nat) : Int) by omega, misP_right]; rfl
  · rw [if_neg (by omega), if_neg h1, startGo_more (p ++ t) _ _ _ (t.size + 1) _ _ (by omega) (by omega) (by omega)]
    exact startGo_right p t i _ _ _ [] (by omega) hb.2
theorem endP_right (p t : ByteArray) (i : Nat) : endP (p ++ t) (p.size + i) = shI p.size (endP t i) := by
  have hz : (p ++ t).size = p.size + t.size := ByteArray.size_append
  have e1 := spP_right p.data.toList t.data.toList (nmP t (i + 2))
  have e2 := drop_right p.data.toList t.data.toList (i + 2)
  have e3 := hasP_right p.data.toList t.data.toList (spP t.data.toList (nmP t (i + 2))) [62]
  rw [bsl] at e1 e2 e3
  have hi : ((p.size + i : Nat) : Int) = (p.size : Int) + (i : Int) := by omega
  have hx : ((p.size + spP t.data.toList (nmP t (i + 2)) : Nat) : Int) = (p.size : Int) + (spP t.data.toList (nmP t (i + 2)) : Nat) := by omega
  unfold endP
  rw [Nat.add_assoc, nmP_right, bapp, e1, e2, e3, hz, show p.size + nmP t (i + 2) - (p.size + (i + 2)) = nmP t (i + 2) - (i + 2) by omega]
  by_cases h1 : nmP t (i + 2) = i + 2
  · rw [if_pos (by omega), if_pos h1, hi, show ((p.size + (i + 2) : Nat) : Int) = (p.size : Int) + ((i + 2 : Nat) : Int) by omega]
    exact misP_shI _ _ _ _ _
  rw [if_neg (by omega), if_neg h1]
  by_cases h2 : hasP t.data.toList ((spP t.data.toList (nmP t (i + 2)) : Nat) : Int) [62] = true
  · rw [if_pos h2, if_pos h2, hx, Int.add_assoc]; rfl
  · rw [if_neg h2, if_neg h2, hi, hx]
    exact misP_shI _ _ _ _ _
theorem skipP_right (l m : List UInt8) (i n : Nat) (t : List UInt8) : skipP (l ++ m) (l.length + i) n t = ((l.length : Int) + (skipP m i n t).1, (skipP m i n t).2) := by
  unfold skipP
  rw [Nat.add_assoc, nextP_right]
  have hb := nextP_bd m (i + n) t
  by_cases h : nextP m (i + n) t < 0
  · rw [if_pos h, if_pos (show nextP m (i + n) t = -1 by omega), if_pos (by decide), show ((l.length + i : Nat) : Int) = (l.length : Int) + (i : Int) by omega]
  · rw [if_neg h, if_neg (show ¬ nextP m (i + n) t = -1 by omega), if_neg (by omega), Int.add_assoc]
theorem dataEnd_right (p t : ByteArray) (i : Nat) : dataEnd (p ++ t) (p.size + i) = p.size + dataEnd t i := by
  have hz : (p ++ t).size = p.size + t.size := ByteArray.size_append
  have e1 := nextP_right p.data.toList t.data.toList i [60]
  have hb := nextP_bd t.data.toList i [60]
  rw [bsl] at e1
  unfold dataEnd
  rw [bapp, e1]
  by_cases h : nextP t.data.toList i [60] < 0
  · rw [if_pos h, if_pos (show nextP t.data.toList i [60] = -1 by omega), if_pos (by decide), hz]
  · rw [if_neg h, if_neg (show ¬ nextP t.data.toList i [60] = -1 by omega), if_neg (by omega)]
    omega
/-- A token further behind. -/
def shT (d : Nat) (x : TokD) : TokD := { x with al := x.al.map (shA d), at' := (d : Int) + x.at' }
/-- The same construct further behind: an ignored one has no place. -/
def ConsSh (d : Nat) (A B : TokD × Int × Int) : Prop := A.2 = ((d : Int) + B.2.1, B.2.2) ∧ (B.2.2 = 0 → (A.1.kind = B.1.kind ∧ A.1.tx = B.1.tx) ∧ ((B.1.kind ≠ 3 ∨ B.1.tx ≠ []) → A.1 = shT d B.1))
theorem consP_right (p t : ByteArray) (i : Nat) (hi : i < t.size) : ConsSh p.size (consP (p ++ t) (p.size + i)) (consP t i) := by
  have hz : (p ++ t).size = p.size + t.size := ByteArray.size_append
  have hI : ((p.size + i : Nat) : Int) = (p.size : Int) + (i : Int) := by omega
  have H := fun x => hasP_right p.data.toList t.data.toList i x
  have K := fun n x => skipP_right p.data.toList t.data.toList i n x
  simp only [bsl] at H K
  unfold consP
  rw [bapp, H, H, H, H, H, H, H, K, K]
  by_cases h1 : hasP t.data.toList (i : Int) [60, 63] = true
  · rw [if_pos h1, if_pos h1]
    exact ⟨rfl, fun _ => ⟨⟨rfl, rfl⟩, fun h => by rcases h with h | h <;> exact absurd rfl h⟩⟩
  rw [if_neg h1, if_neg h1]
  by_cases h2 : hasP t.data.toList (i : Int) [60, 33, 45, 45] = true
  · rw [if_pos h2, if_pos h2]
    exact ⟨rfl, fun _ => ⟨⟨rfl, rfl⟩, fun h => by rcases h with h | h <;> exact absurd rfl h⟩⟩
  rw [if_neg h2, if_neg h2]
  by_cases h3 : hasP t.data.toList (i : Int) [60, 33, 91, 67, 68, 65, 84, 65, 91] = true
  · rw [if_pos h3, if_pos h3]
    have hl := hasP_len h3 (by decide)
    rw [bsl] at hl
    unfold cdataP
    rw [bapp, K]
    by_cases h4 : (skipP t.data.toList i 9 [93, 93, 62]).2 = 0
    · rw [if_neg (by simp only; simpa using h4), if_neg (by simpa using h4)]
      obtain ⟨n, hn, hn1, hn2⟩ := skip_cdata t i h4 hl
      have e2 := drop_right p.data.toList t.data.toList (i + 9)
      rw [bsl] at e2
      refine ⟨rfl, fun _ => ?_⟩
      simp only
      rw [Nat.add_assoc, e2, hn, show ((p.size : Int) + (n : Int)).toNat - 3 - (p.size + (i + 9)) = (n : Int).toNat - 3 - (i + 9) by omega]
      refine ⟨⟨rfl, rfl⟩, fun _ => ?_⟩
      unfold tokT shT
      simp only [List.map_nil]
      rw [hI]
    · rw [if_pos (by simp only; simpa using h4), if_pos (by simpa using h4)]
      exact ⟨rfl, fun h => absurd h h4⟩
  rw [if_neg h3, if_neg h3]
  by_cases h4 : hasP t.data.toList (i : Int) [60, 33, 68, 79, 67, 84, 89, 80, 69] = true
  · rw [if_pos h4, if_pos h4, hI]
    exact ⟨rfl, fun h => by simp at h⟩
  rw [if_neg h4, if_neg h4]
  by_cases h5 : hasP t.data.toList (i : Int) [60, 33] = true
  · rw [if_pos h5, if_pos h5, hI]
    exact ⟨rfl, fun h => by simp at h⟩
  rw [if_neg h5, if_neg h5]
  by_cases h6 : hasP t.data.toList (i : Int) [60, 47] = true
  · rw [if_pos h6, if_pos h6, endP_right, hI]
    exact ⟨rfl, fun _ => ⟨⟨rfl, rfl⟩, fun _ => rfl⟩⟩
  rw [if_neg h6, if_neg h6]
  by_cases h7 : hasP t.data.toList (i : Int) [60] = true
  · rw [if_pos h7, if_pos h7, startP_right p t i (by omega), hI]
    exact ⟨rfl, fun _ => ⟨⟨rfl, rfl⟩, fun _ => rfl⟩⟩
  rw [if_neg h7, if_neg h7]
  unfold dataP
  have hb := dataEnd_bd t i (by omega)
  have e1 := contP_right p.data.toList t.data.toList i (dataEnd t i) false (by rw [bsl]; exact hb.2)
  rw [bsl] at e1
  rw [dataEnd_right, bapp, e1]
  refine ⟨rfl, fun _ => ⟨⟨rfl, rfl⟩, fun _ => ?_⟩⟩
  unfold tokT shT
  simp only [List.map_nil]
  rw [hI]
/-- What Tokens gives further behind, with the tokens A ahead. -/
def shG (d : Nat) (A : List TokD) (R : List TokD × Int × Int) : List TokD × Int × Int := if R.2.2 = 0 then (A ++ R.1.map (shT d), (d : Int) + R.2.1, 0) else ([], (d : Int) + R.2.1, R.2.2)
theorem tokGo_right (p t : ByteArray) (A : List TokD) : ∀ f a B, t.size - a < f → a ≤ t.size → tokGo (p ++ t) f (p.size + a) (A ++ B.map (shT p.size)) = shG p.size A (tokGo t f a B)
  | 0, _, _, h, _ => absurd h (by omega)
  | f + 1, a, B, h, ha => by
    have hz : (p ++ t).size = p.size + t.size := ByteArray.size_append
    rw [tokGo, tokGo]
    by_cases hlt : a < t.size
    · rw [if_pos (by omega), if_pos hlt]
      obtain ⟨c1, c2⟩ := consP_right p t a hlt
      rw [c1]
      simp only
      by_cases h0 : (consP t a).2.2 = 0
      · rw [if_neg (c := (consP t a).2.2 ≠ 0) (fun q => q h0), if_neg (c := (consP t a).2.2 ≠ 0) (fun q => q h0)]
        obtain ⟨⟨d1, d2⟩, d3⟩ := c2 h0
        obtain ⟨z, hzz, hz1, hz2⟩ := consP_ok t a hlt h0
        rw [hzz, d1, d2, Int.toNat_natCast, show ((p.size : Int) + (z : Int)).toNat = p.size + z by omega]
        by_cases hk : (consP t a).1.kind ≠ 3 ∨ (consP t a).1.tx ≠ []
        · rw [if_pos hk, if_pos hk, d3 hk, List.append_assoc, ← List.map_singleton (f := shT p.size), ← List.map_append]
          exact tokGo_right p t A f z _ (by omega) hz2
        · rw [if_neg hk, if_neg hk]
          exact tokGo_right p t A f z _ (by omega) hz2
      · rw [if_pos (c := (consP t a).2.2 ≠ 0) h0, if_pos (c := (consP t a).2.2 ≠ 0) h0]
        unfold shG
        rw [if_neg h0]
    · rw [if_neg (by omega), if_neg hlt]
      unfold shG
      rw [if_pos rfl, hz, show ((p.size + t.size : Nat) : Int) = (p.size : Int) + (t.size : Int) by omega]
/-! ### Plain facts of layer 6: what the reference gives without an error does not depend on what stands behind: names, values, attributes, tags. -/
theorem getD_left (l m : List UInt8) (i : Nat) (h : i < l.length) : (l ++ m).getD i 0 = l.getD i 0 := by
  rw [List.getD_eq_getElem?_getD, List.getD_eq_getElem?_getD, List.getElem?_append_left h]
theorem pre_left (x a m : List UInt8) (h : x.length ≤ a.length) : x.isPrefixOf (a ++ m) = x.isPrefixOf a := by
  rw [pre_take, pre_take, List.take_append_of_le_length h]
theorem hasP_left (l m : List UInt8) (i : Nat) (x : List UInt8) (h : i + x.length ≤ l.length) : hasP (l ++ m) (i : Int) x = hasP l (i : Int) x := by
  unfold hasP
  rw [Int.toNat_natCast, List.drop_append_of_le_length (by omega), pre_left _ _ _ (by rw [List.length_drop]; omega)]
theorem hasP_left_true {l : List UInt8} (m : List UInt8) {i : Nat} {x : List UInt8} (hx : x ≠ []) (h : hasP l (i : Int) x = true) : hasP (l ++ m) (i : Int) x = true := by
  rw [hasP_left l m i x (hasP_len h hx)]; exact h
theorem tW_left (f : UInt8 → Bool) : ∀ a m : List UInt8, (a.takeWhile f).length < a.length → (a ++ m).takeWhile f = a.takeWhile f
  | [], _, h => by simp at h
  | c :: a, m, h => by
    rw [List.cons_append, List.takeWhile_cons, List.takeWhile_cons]
    by_cases hc : f c = true
    · rw [if_pos hc, if_pos hc]
      rw [List.takeWhile_cons, if_pos hc] at h
      rw [tW_left f a m (by simpa using h)]
    · rw [if_neg hc, if_neg hc]
theorem spP_left (l m : List UInt8) (i : Nat) (h : spP l i < l.length) : spP (l ++ m) i = spP l i := by
  have hi : i ≤ l.length := by
    unfold spP at h; omega
  unfold spP at h ⊢
  rw [List.drop_append_of_le_length hi, tW_left spB _ m (by rw [List.length_drop]; omega)]
theorem quoAt_left (l m : List UInt8) (x : UInt8) (e : Nat) (h : quoAt l x e < l.length) : quoAt (l ++ m) x e = quoAt l x e := by
  have hi : e ≤ l.length := by
    unfold quoAt at h; omega
  unfold quoAt at h ⊢
  rw [List.drop_append_of_le_length hi, tW_left _ _ m (by rw [List.length_drop]; omega)]
theorem index_left : ∀ l m x : List UInt8, Lib.index l x ≠ -1 → Lib.index (l ++ m) x = Lib.index l x
  | [], m, x, h => by
    rw [Lib.index] at h ⊢
    split at h
    · rename_i he
      rw [if_pos he]
      obtain rfl := List.isEmpty_iff.1 he
      cases m with
      | nil => rfl
      | cons b m => rw [List.nil_append, Lib.index, if_pos (by simp)]
    · exact absurd rfl h
  | b :: l, m, x, h => by
    rw [List.cons_append, Lib.index, Lib.index]
    by_cases hp : x.isPrefixOf (b :: l) = true
    · rw [if_pos hp, if_pos (by rw [← List.cons_append, pre_left _ _ _ (List.isPrefixOf_iff_prefix.1 hp).length_le]; exact hp)]
    · rw [Lib.index, if_neg hp] at h
      by_cases h1 : Lib.index l x = -1
      · rw [if_pos (by simp [h1])] at h; exact absurd rfl h
      · have hr := index_room l x h1
        have hg := (index_ge l x).resolve_left h1
        rw [if_neg hp, if_neg (by rw [← List.cons_append, pre_left _ _ _ (by rw [List.length_cons]; omega)]; exact hp), index_left l m x h1]
theorem nextP_left (l m : List UInt8) (i : Nat) (x : List UInt8) (hi : i ≤ l.length) (h : nextP l i x ≠ -1) : nextP (l ++ m) i x = nextP l i x := by
  unfold nextP at h ⊢
  rw [List.drop_append_of_le_length hi]
  by_cases h1 : Lib.index (l.drop i) x = -1
  · rw [if_pos h1] at h; exact absurd rfl h
  · rw [index_left _ m _ h1]
theorem contF_left (l m : List UInt8) (j : Nat) (v : Bool) (hj : j ≤ l.length) : ∀ f i out, contF (l ++ m) j v f i out = contF l j v f i out
  | 0, _, _ => rfl
  | f + 1, i, out => by
    rw [contF, contF]
    by_cases hi : i < j
    · have hch : chunk (l ++ m) i j = chunk l i j := by
        unfold chunk
        rw [List.drop_append_of_le_length (by omega), List.take_append_of_le_length (by rw [List.length_drop]; omega)]
      rw [if_pos hi, if_pos hi, getD_left l m i (by omega), List.take_append_of_le_length hj, hch, contF_left l m j v hj f, contF_left l m j v hj f]
    · rw [if_neg hi, if_neg hi]
theorem contP_left (l m : List UInt8) (i j : Nat) (v : Bool) (hj : j ≤ l.length) : contP (l ++ m) i j v = contP l i j v := contF_left l m j v hj _ _ _

/-! ### names -/
theorem ext_left (s r : ByteArray) (i k : Nat) (hk : k ≤ s.size) : (s ++ r).extract i k = s.extract i k := by
  rw [kext, kext, bapp]
  rcases Nat.lt_or_ge k i with h | h
  · rw [show k - i = 0 by omega, List.take_zero, List.take_zero]
  · rw [List.drop_append_of_le_length (by rw [bsl]; omega), List.take_append_of_le_length (by rw [List.length_drop, bsl]; omega)]
theorem nmF_left (s r : ByteArray) (i : Nat) : ∀ f k, (∃ c, s.data.toList[nmF s i f k]? = some c ∧ c.toNat < 128) → k ≤ s.size → nmF (s ++ r) i f k = nmF s i f k
  | 0, _, _, _ => rfl
  | f + 1, k, h, hk => by
    have hz : (s ++ r).size = s.size + r.size := ByteArray.size_append
    rw [nmF] at h
    rw [nmF, nmF]
    by_cases hlt : k < s.size
    · rw [if_pos hlt] at h
      rw [if_pos (by omega), if_pos hlt]
      by_cases h0 : (decP s k).2 = 0
      · rw [if_pos h0] at h
        obtain ⟨c, hc, hc7⟩ := h
        have := dec_ascii s k c hc hc7
        omega
      · rw [if_neg h0] at h
        have hok := (decP_ok s k hlt).1
        rw [dec_left s r k hlt h0, if_neg h0, if_neg h0, ext_left s r i _ hok]
        by_cases hq : isQB (s.extract i (k + (decP s k).2)) = true
        · rw [if_pos hq] at h
          rw [if_pos hq, if_pos hq]
          exact nmF_left s r i f _ h hok
        · rw [if_neg hq, if_neg hq]
    · rw [if_neg hlt] at h
      obtain ⟨c, hc, _⟩ := h
      rw [List.getElem?_eq_none (by rw [bsl]; omega)] at hc
      cases hc
theorem nmP_left (s r : ByteArray) (i : Nat) (hi : i ≤ s.size) (h : ∃ c, s.data.toList[nmP s i]? = some c ∧ c.toNat < 128) : nmP (s ++ r) i = nmP s i := by
  have hz : (s ++ r).size = s.size + r.size := ByteArray.size_append
  have hm : nmF s i ((s ++ r).size + 1) i = nmF s i (s.size + 1) i := nmF_more s i _ _ _ (by omega) (by omega)
  unfold nmP at h ⊢
  rw [← hm] at h
  rw [nmF_left s r i _ i h hi, hm]
theorem sp_ascii (c : UInt8) (h : spB c = true) : c.toNat < 128 := by
  unfold spB isSpaceB at h
  simp only [Bool.or_eq_true, beq_iff_eq] at h
  omega
/-- The byte at which white space begins, if a plain byte stands behind it. -/
theorem sp_head (l : List UInt8) (e : Nat) (h : spP l e < l.length) (hc : ∀ c, l[spP l e]? = some c → c.toNat < 128) : ∃ c, l[e]? = some c ∧ c.toNat < 128 := by
  have he : e < l.length := by unfold spP at h; omega
  refine ⟨l[e], List.getElem?_eq_getElem he, ?_⟩
  by_cases hs : spB l[e] = true
  · exact sp_ascii _ hs
  · have := spP_no l e he (by simpa using hs)
    rw [this] at hc
    exact hc _ (List.getElem?_eq_getElem he)
theorem one_get {l : List UInt8} {m : Nat} {c : UInt8} (h : hasP l (m : Int) [c] = true) : m < l.length ∧ l[m]? = some c := by
  obtain ⟨hm, hc⟩ := hasP_one l m c h
  exact ⟨hm, by rw [List.getElem?_eq_getElem hm, hc]⟩

/-! ### attributes -/
theorem attr3_left (s r : ByteArray) (i : Nat) (N : List UInt8) (m e : Nat) (he : e ≤ s.size) (h : (attr3 s i N m e).2.2 = 0) : attr3 (s ++ r) i N m e = attr3 s i N m e ∧ e < s.size := by
  have hz : (s ++ r).size = s.size + r.size := ByteArray.size_append
  unfold attr3 at h ⊢
  rw [bapp, contP_left _ _ _ _ _ (by rw [bsl]; exact he)]
  unfold attr4 at h ⊢
  by_cases h1 : (contP s.data.toList (m + 1) e true).2.2 ≠ 0
  · rw [if_pos h1] at h; exact absurd h h1
  · rw [if_neg h1] at h
    by_cases h2 : e = s.size
    · rw [if_pos h2] at h; simp at h
    · rw [if_neg h1, if_neg h1, if_neg (by omega), if_neg h2, bapp, getD_left _ _ _ (by rw [bsl]; omega)]
      exact ⟨rfl, by omega⟩
theorem misP_err {n i : Nat} {k : Int} : (misP n i k).2 ≠ 0 := misP_ne _ _ _
theorem attr2_left (s r : ByteArray) (i : Nat) (N : List UInt8) (m : Nat) (h : (attr2 s i N m).2.2 = 0) : attr2 (s ++ r) i N m = attr2 s i N m ∧ m < s.size := by
  unfold attr2 at h ⊢
  by_cases h1 : hasP s.data.toList (m : Int) [34] = true
  · have hm := (one_get h1).1
    have hq := quoAt_le s.data.toList 34 (m + 1) (by omega)
    rw [bsl] at hm
    rw [if_pos h1] at h
    rw [bsl] at hq
    obtain ⟨_, he⟩ := attr3_left s r i N m _ hq.2 h
    rw [bapp, if_pos (hasP_left_true _ (by decide) h1), if_pos h1, quoAt_left _ _ _ _ (by rw [bsl]; exact he)]
    exact ⟨(attr3_left s r i N m _ hq.2 h).1, hm⟩
  · rw [if_neg h1] at h
    by_cases h2 : hasP s.data.toList (m : Int) [39] = true
    · have hm := (one_get h2).1
      have hq := quoAt_le s.data.toList 39 (m + 1) (by omega)
      rw [bsl] at hm
      rw [if_pos h2] at h
      rw [bsl] at hq
      obtain ⟨_, he⟩ := attr3_left s r i N m _ hq.2 h
      rw [bapp, hasP_left _ _ m [34] (by rw [bsl]; exact hm), if_neg h1, if_neg h1, if_pos (hasP_left_true _ (by decide) h2), if_pos h2, quoAt_left _ _ _ _ (by rw [bsl]; exact he)]
      exact ⟨(attr3_left s r i N m _ hq.2 h).1, hm⟩
    · rw [if_neg h2] at h
      exact absurd h misP_err
theorem attrP_left (s r : ByteArray) (i a : Nat) (ha : a ≤ s.size) (h : (attrP s i a).2.2 = 0) : attrP (s ++ r) i a = attrP s i a := by
  unfold attrP at h ⊢
  have hb := nmP_le s a ha
  by_cases h1 : nmP s a = a
  · rw [if_pos h1] at h
    exact absurd h misP_err
  rw [if_neg h1] at h
  unfold attr1 at h
  by_cases h2 : hasP s.data.toList (spP s.data.toList (nmP s a) : Nat) [61] = true
  · obtain ⟨hk, hkc⟩ := one_get h2
    rw [if_pos h2] at h
    have hn := nmP_left s r a ha (sp_head _ _ hk fun c hc => by rw [hkc] at hc; obtain rfl := Option.some.inj hc; decide)
    obtain ⟨e2, hm⟩ := attr2_left s r i _ _ h
    rw [hn, if_neg h1, if_neg h1, bapp, spP_left _ _ _ hk, List.drop_append_of_le_length (by rw [bsl]; omega), List.take_append_of_le_length (by rw [List.length_drop, bsl]; omega)]
    unfold attr1
    rw [bapp, if_pos (hasP_left_true _ (by decide) h2), if_pos h2, spP_left _ _ _ (by rw [bsl]; exact hm)]
    exact e2
  · rw [if_neg h2] at h
    exact absurd h misP_err

/-! ### tags -/
theorem hasP_sub {l : List UInt8} {x : Nat} {a b : UInt8} (h : hasP l (x : Int) [a, b] = true) : hasP l (x : Int) [a] = true := by
  unfold hasP at h ⊢
  rw [Bool.and_eq_true] at h ⊢
  refine ⟨h.1, ?_⟩
  rw [List.isPrefixOf_iff_prefix] at h ⊢
  exact (List.prefix_append [a] [b]).trans h.2
theorem attrP_out (s : ByteArray) (i a : Nat) (h : s.size ≤ a) : (attrP s i a).2.2 ≠ 0 := by
  unfold attrP
  rw [if_pos (nmP_out s a h)]
  exact misP_err
/-- Where a start tag goes on without an error, there is a plain byte. -/
theorem startGo_head (s : ByteArray) (i : Nat) (N : List UInt8) (f a : Nat) (acc : List AttrD) (ha : a ≤ s.size) (h : (startGo s i N (f + 1) a acc).p2 = 0) : spP s.data.toList a < s.data.toList.length ∧ ∃ c, s.data.toList[a]? = some c ∧ c.toNat < 128 := by
  have hsb := spP_le s.data.toList a (by rw [bsl]; exact ha)
  have hx : spP s.data.toList a < s.data.toList.length := by
    rcases Nat.lt_or_ge (spP s.data.toList a) s.data.toList.length with hx | hx
    · exact hx
    · exfalso
      have hno : ∀ t : List UInt8, t ≠ [] → hasP s.data.toList (spP s.data.toList a : Nat) t = false := fun t ht => by
        cases hq : hasP s.data.toList (spP s.data.toList a : Nat) t with
        | false => rfl
        | true =>
          have := hasP_len hq ht
          have : 0 < t.length := List.length_pos_iff.2 ht
          omega
      rw [startGo, hno _ (by decide), hno _ (by decide), hno _ (by decide), if_neg (by decide), if_neg (by decide), if_neg (by decide)] at h
      by_cases h4 : spP s.data.toList a = a
      · rw [if_pos h4] at h; exact misP_err h
      · rw [if_neg h4, if_pos (attrP_out s i _ (by rw [← bsl s]; exact hx))] at h
        exact attrP_out s i _ (by rw [← bsl s]; exact hx) h
  refine ⟨hx, ?_⟩
  by_cases h4 : spP s.data.toList a = a
  · rw [startGo] at h
    by_cases h1 : hasP s.data.toList (spP s.data.toList a : Nat) [62] = true
    · obtain ⟨_, hc⟩ := one_get h1
      rw [h4] at hc
      exact ⟨62, hc, by decide⟩
    rw [if_neg h1] at h
    by_cases h2 : hasP s.data.toList (spP s.data.toList a : Nat) [47, 62] = true
    · obtain ⟨_, hc⟩ := one_get (hasP_sub h2)
      rw [h4] at hc
      exact ⟨47, hc, by decide⟩
    rw [if_neg h2] at h
    by_cases h3 : hasP s.data.toList (spP s.data.toList a : Nat) [47] = true
    · rw [if_pos h3] at h; exact absurd h misP_err
    rw [if_neg h3, if_pos h4] at h
    exact absurd h misP_err
  · have hal : a < s.data.toList.length := by omega
    refine ⟨_, List.getElem?_eq_getElem hal, ?_⟩
    by_cases hs : spB s.data.toList[a] = true
    · exact sp_ascii _ hs
    · exact absurd (spP_no _ a hal (by simpa using hs)) h4
theorem startGo_left (s r : ByteArray) (i : Nat) (N : List UInt8) : ∀ f a acc, s.size - a < f → a ≤ s.size → (startGo s i N f a acc).p2 = 0 → startGo (s ++ r) i N f a acc = startGo s i N f a acc
  | 0, _, _, h, _, _ => absurd h (by omega)
  | f + 1, a, acc, hf, ha, h => by
    obtain ⟨hx, _⟩ := startGo_head s i N f a acc ha h
    have hsb := spP_le s.data.toList a (by rw [bsl]; exact ha)
    rw [bsl] at hsb
    rw [startGo] at h
    rw [startGo, startGo, bapp, spP_left _ _ _ hx, hasP_left _ _ _ [62] hx]
    by_cases h1 : hasP s.data.toList (spP s.data.toList a : Nat) [62] = true
    · rw [if_pos h1, if_pos h1]
    rw [if_neg h1] at h
    rw [if_neg h1, if_neg h1]
    by_cases h2 : hasP s.data.toList (spP s.data.toList a : Nat) [47, 62] = true
    · rw [if_pos (hasP_left_true _ (by decide) h2), if_pos h2]
    rw [if_neg h2] at h
    by_cases h3 : hasP s.data.toList (spP s.data.toList a : Nat) [47] = true
    · rw [if_pos h3] at h; exact absurd h misP_err
    rw [if_neg h3] at h
    have h2f : ¬ hasP (s.data.toList ++ r.data.toList) (spP s.data.toList a : Nat) [47, 62] = true := fun q => h3 (by rw [← hasP_left _ r.data.toList _ [47] hx]; exact hasP_sub q)
    rw [if_neg h2f, if_neg h2, hasP_left _ _ _ [47] hx, if_neg h3, if_neg h3]
    by_cases h4 : spP s.data.toList a = a
    · rw [if_pos h4] at h; exact absurd h misP_err
    rw [if_neg h4] at h
    rw [if_neg h4, if_neg h4]
    by_cases h5 : (attrP s i (spP s.data.toList a)).2.2 ≠ 0
    · rw [if_pos h5] at h; exact absurd h h5
    rw [if_neg h5] at h
    rw [attrP_left s r i _ hsb.2 (by simpa using h5), if_neg h5, if_neg h5]
    by_cases h6 : ∃ x ∈ acc, x.nm = ofBytes (attrP s i (spP s.data.toList a)).1.1
    · rw [if_pos h6] at h; simp at h
    rw [if_neg h6] at h
    rw [if_neg h6, if_neg h6]
    obtain ⟨z, hzz, hz1, hz2⟩ := attrP_ok s i (spP s.data.toList a) hsb.2 (by simpa using h5)
    rw [hzz, Int.toNat_natCast] at h ⊢
    exact startGo_left s r i N f z _ (by omega) hz2 h
theorem startP_left (s r : ByteArray) (i : Nat) (hi : i + 1 ≤ s.size) (h : (startP s i).p2 = 0) : startP (s ++ r) i = startP s i := by
  have hz : (s ++ r).size = s.size + r.size := ByteArray.size_append
  have hb := nmP_le s (i + 1) hi
  unfold startP at h ⊢
  by_cases h1 : nmP s (i + 1) = i + 1
  · rw [if_pos h1] at h; exact absurd h misP_err
  rw [if_neg h1] at h
  obtain ⟨_, hc⟩ := startGo_head s i _ _ _ _ hb.2 h
  rw [nmP_left s r (i + 1) hi hc, if_neg h1, if_neg h1, bapp, List.drop_append_of_le_length (by rw [bsl]; omega), List.take_append_of_le_length (by rw [List.length_drop, bsl]; omega), startGo_more (s ++ r) i _ ((s ++ r).size + 1) ((s ++ r).size + 1) _ _ (by omega) (by omega) (by omega)]
  have hm := startGo_more s i ((s.data.toList.drop (i + 1)).take (nmP s (i + 1) - (i + 1))) (s.size + 1) ((s ++ r).size + 1) (nmP s (i + 1)) [] (by omega) (by omega) hb.2
  rw [hm] at h ⊢
  exact startGo_left s r i _ _ _ _ (by omega) hb.2 h
theorem endP_left (s r : ByteArray) (i : Nat) (hi : i + 2 ≤ s.size) (h : (endP s i).2.2 = 0) : endP (s ++ r) i = endP s i := by
  have hb := nmP_le s (i + 2) hi
  unfold endP at h ⊢
  by_cases h1 : nmP s (i + 2) = i + 2
  · rw [if_pos h1] at h; exact absurd h misP_err
  rw [if_neg h1] at h
  by_cases h2 : hasP s.data.toList ((spP s.data.toList (nmP s (i + 2)) : Nat) : Int) [62] = true
  · obtain ⟨hk, hkc⟩ := one_get h2
    have hn := nmP_left s r (i + 2) hi (sp_head _ _ hk fun c hc => by rw [hkc] at hc; obtain rfl := Option.some.inj hc; decide)
    rw [hn, if_neg h1, if_neg h1, bapp, spP_left _ _ _ hk, if_pos (hasP_left_true _ (by decide) h2), if_pos h2, List.drop_append_of_le_length (by rw [bsl]; omega), List.take_append_of_le_length (by rw [List.length_drop, bsl]; omega)]
  · rw [if_neg h2] at h; exact absurd h misP_err
/-! ### Plain facts of layer 6: the tokens of two documents in sequence. -/
theorem skipP_left (l m : List UInt8) (i n : Nat) (t : List UInt8) (hi : i + n ≤ l.length) (h : (skipP l i n t).2 = 0) : skipP (l ++ m) i n t = skipP l i n t := by
  unfold skipP at h ⊢
  by_cases h1 : nextP l (i + n) t < 0
  · rw [if_pos h1] at h; simp at h
  · rw [nextP_left l m (i + n) t hi (by omega)]
theorem dataP_left (s r : ByteArray) (i : Nat) (hi : i ≤ s.size) (h : nextP s.data.toList i [60] ≠ -1) : dataP (s ++ r) i = dataP s i := by
  have hb := nextP_bd s.data.toList i [60]
  have hd : dataEnd (s ++ r) i = dataEnd s i := by
    unfold dataEnd
    rw [bapp, nextP_left _ _ _ _ (by rw [bsl]; exact hi) h, if_neg (by omega), if_neg (by omega)]
  unfold dataP
  have hbd := dataEnd_bd s i hi
  rw [hd, bapp, contP_left _ _ _ _ _ (by rw [bsl]; exact hbd.2)]
theorem ff : ¬ (false = true) := by decide
theorem consP_left (s r : ByteArray) (i : Nat) (hi : i < s.size) (h : (consP s i).2.2 = 0) (hd : hasP s.data.toList (i : Int) [60] = false → nextP s.data.toList i [60] ≠ -1) : consP (s ++ r) i = consP s i := by
  have hil : i < s.data.toList.length := by rw [bsl]; exact hi
  have g0 : s.data.toList[i]? = some s.data.toList[i] := List.getElem?_eq_getElem hil
  have G0 : (s.data.toList ++ r.data.toList)[i]? = some s.data.toList[i] := by rw [List.getElem?_append_left hil]; exact g0
  generalize s.data.toList[i] = c at *
  by_cases hc : c = 60
  · subst hc
    have y7 := hasP_yes1 g0
    have Y7 := hasP_yes1 G0
    have h2 : i + 2 ≤ s.size := by
      rcases Nat.lt_or_ge s.size (i + 2) with hlt | hge
      · exfalso
        have hno : ∀ t : List UInt8, 2 ≤ t.length → hasP s.data.toList (i : Int) t = false := fun t ht => by
          cases hq : hasP s.data.toList (i : Int) t with
          | false => rfl
          | true =>
            have := hasP_len hq (fun e => by rw [e] at ht; simp at ht)
            rw [bsl] at this
            omega
        unfold consP at h
        rw [hno _ (by decide), hno _ (by decide), hno _ (by decide), hno _ (by decide), hno _ (by decide), hno _ (by decide), if_neg ff, if_neg ff, if_neg ff, if_neg ff, if_neg ff, if_neg ff, if_pos y7] at h
        unfold startP at h
        rw [if_pos (nmP_out s (i + 1) (by omega))] at h
        exact misP_err h
      · exact hge
    have h1l : i + 1 < s.data.toList.length := by rw [bsl]; omega
    have g1 : s.data.toList[i + 1]? = some s.data.toList[i + 1] := List.getElem?_eq_getElem h1l
    have G1 : (s.data.toList ++ r.data.toList)[i + 1]? = some s.data.toList[i + 1] := by rw [List.getElem?_append_left h1l]; exact g1
    generalize s.data.toList[i + 1] = e at *
    by_cases e1 : e = 63
    · subst e1
      unfold consP at h ⊢
      rw [if_pos (hasP_yes2 g0 g1)] at h
      rw [bapp, if_pos (hasP_yes2 G0 G1), if_pos (hasP_yes2 g0 g1), skipP_left _ _ _ _ _ (by rw [bsl]; exact h2) h]
    by_cases e2 : e = 33
    · subst e2
      have n1 := hasP_no2 60 63 [] g0 g1 (by decide)
      have N1 := hasP_no2 60 63 [] G0 G1 (by decide)
      unfold consP at h ⊢
      rw [n1, if_neg ff] at h
      rw [bapp, N1, n1, if_neg ff, if_neg ff]
      by_cases c2 : hasP s.data.toList (i : Int) [60, 33, 45, 45] = true
      · have hl : i + 4 ≤ s.data.toList.length := hasP_len c2 (by decide)
        rw [if_pos c2] at h
        rw [if_pos (hasP_left_true _ (by decide) c2), if_pos c2, skipP_left _ _ _ _ _ hl h]
      rw [if_neg c2] at h
      by_cases c3 : hasP s.data.toList (i : Int) [60, 33, 91, 67, 68, 65, 84, 65, 91] = true
      · have hl := hasP_len c3 (by decide)
        simp only [List.length_cons, List.length_nil] at hl
        rw [if_pos c3] at h
        rw [hasP_left _ _ i [60, 33, 45, 45] (by simp only [List.length_cons, List.length_nil]; omega), if_neg c2, if_neg c2, if_pos (hasP_left_true _ (by decide) c3), if_pos c3]
        unfold cdataP at h ⊢
        by_cases c4 : (skipP s.data.toList i 9 [93, 93, 62]).2 = 0
        · obtain ⟨n, hn, hn1, hn2⟩ := skip_cdata s i c4 (by rw [← bsl s]; omega)
          rw [bapp, skipP_left _ _ _ _ _ (by omega) c4, if_neg (by simpa using c4), if_neg (by simpa using c4), hn, List.drop_append_of_le_length (by omega), List.take_append_of_le_length (by rw [List.length_drop, bsl]; omega)]
        · rw [if_pos (by simpa using c4)] at h
          exact absurd h c4
      rw [if_neg c3] at h
      by_cases c4 : hasP s.data.toList (i : Int) [60, 33, 68, 79, 67, 84, 89, 80, 69] = true
      · rw [if_pos c4] at h; simp at h
      rw [if_neg c4, if_pos (hasP_yes2 g0 g1)] at h
      simp at h
    have n1 := hasP_no2 60 63 [] g0 g1 e1
    have N1 := hasP_no2 60 63 [] G0 G1 e1
    have n2 := hasP_no2 60 33 [45, 45] g0 g1 e2
    have N2 := hasP_no2 60 33 [45, 45] G0 G1 e2
    have n3 := hasP_no2 60 33 [91, 67, 68, 65, 84, 65, 91] g0 g1 e2
    have N3 := hasP_no2 60 33 [91, 67, 68, 65, 84, 65, 91] G0 G1 e2
    have n4 := hasP_no2 60 33 [68, 79, 67, 84, 89, 80, 69] g0 g1 e2
    have N4 := hasP_no2 60 33 [68, 79, 67, 84, 89, 80, 69] G0 G1 e2
    have n5 := hasP_no2 60 33 [] g0 g1 e2
    have N5 := hasP_no2 60 33 [] G0 G1 e2
    unfold consP at h ⊢
    rw [n1, n2, n3, n4, n5, if_neg ff, if_neg ff, if_neg ff, if_neg ff, if_neg ff] at h
    rw [bapp, N1, N2, N3, N4, N5, n1, n2, n3, n4, n5, if_neg ff, if_neg ff, if_neg ff, if_neg ff, if_neg ff, if_neg ff, if_neg ff, if_neg ff, if_neg ff, if_neg ff]
    by_cases e3 : e = 47
    · subst e3
      rw [if_pos (hasP_yes2 g0 g1)] at h
      rw [if_pos (hasP_yes2 G0 G1), if_pos (hasP_yes2 g0 g1), endP_left s r i h2 h]
    · have n6 := hasP_no2 60 47 [] g0 g1 e3
      have N6 := hasP_no2 60 47 [] G0 G1 e3
      rw [n6, if_neg ff, if_pos y7] at h
      rw [N6, n6, if_neg ff, if_neg ff, if_pos Y7, if_pos y7, startP_left s r i (by omega) h]
  · have n : ∀ t, hasP s.data.toList (i : Int) (60 :: t) = false := fun t => hasP_no t g0 hc
    have N : ∀ t, hasP (s.data.toList ++ r.data.toList) (i : Int) (60 :: t) = false := fun t => hasP_no t G0 hc
    unfold consP
    rw [bapp, n, n, n, n, n, n, n, N, N, N, N, N, N, N]
    simp only [Bool.false_eq_true, if_false]
    exact dataP_left s r i (by omega) (hd (n []))
theorem eb_ne (r : Int) (h : isCharB r = true) : eb r ≠ [] := by
  have h := of_decide_eq_true h
  unfold eb encZ
  rw [if_neg (by omega)]
  repeat' split
  all_goals simp
theorem contF_grow (l : List UInt8) (j : Nat) (v : Bool) : ∀ f i out, (contF l j v f i out).2.2 = 0 → out.length ≤ (contF l j v f i out).1.length
  | 0, _, _, _ => Nat.le_refl _
  | f + 1, i, out, h => by
    rw [contF] at h ⊢
    by_cases hi : i < j
    · rw [if_pos hi] at h ⊢
      by_cases hc : l.getD i 0 = 38
      · rw [if_pos hc] at h ⊢
        by_cases h0 : (refAt (l.take j) i).2.2 = 0
        · rw [if_pos h0] at h ⊢
          have := contF_grow l j v f _ _ h
          rw [List.length_append] at this
          omega
        · rw [if_neg h0] at h
          exact absurd h h0
      · rw [if_neg hc] at h ⊢
        have := contF_grow l j v f _ _ h
        rw [List.length_append] at this
        omega
    · rw [if_neg hi]
      exact Nat.le_refl _
theorem contP_ne (l : List UInt8) (i j : Nat) (v : Bool) (hi : i < j) (hj : j ≤ l.length) (h : (contP l i j v).2.2 = 0) : (contP l i j v).1 ≠ [] := by
  unfold contP at h ⊢
  intro he
  rw [contF, if_pos hi] at h he
  by_cases hc : l.getD i 0 = 38
  · rw [if_pos hc] at h he
    rcases refAt_cases (l.take j) i with hr | ⟨r, k, hr, h1, h2, h3, _⟩
    · rw [hr] at h
      simp at h
    · rw [hr, if_pos rfl] at h he
      have := contF_grow l j v _ _ _ h
      rw [he, List.length_append] at this
      have h4 := List.length_pos_iff.2 (eb_ne r h3)
      simp only [List.length_nil] at this
      omega
  · rw [if_neg hc] at h he
    have := contF_grow l j v _ _ _ h
    rw [he, List.length_append, spMap_len] at this
    have hp := chunk_pos l i j hi hj hc
    have h4 := List.length_pos_iff.2 (linesP_ne _ (List.length_pos_iff.1 hp))
    simp only [List.length_nil] at this
    omega
theorem tokGo_more (s : ByteArray) : ∀ f g a acc, s.size - a < f → s.size - a < g → tokGo s f a acc = tokGo s g a acc
  | 0, _, _, _, h, _ => absurd h (by omega)
  | _ + 1, 0, _, _, _, h => absurd h (by omega)
  | f + 1, g + 1, a, acc, h, h' => by
    rw [tokGo, tokGo]
    by_cases hlt : a < s.size
    · rw [if_pos hlt, if_pos hlt]
      by_cases h0 : (consP s a).2.2 = 0
      · rw [if_neg (c := (consP s a).2.2 ≠ 0) (fun q => q h0), if_neg (c := (consP s a).2.2 ≠ 0) (fun q => q h0)]
        obtain ⟨z, hzz, hz1, hz2⟩ := consP_ok s a hlt h0
        rw [hzz, Int.toNat_natCast]
        exact tokGo_more s f g z _ (by omega) (by omega)
      · rw [if_pos (c := (consP s a).2.2 ≠ 0) h0, if_pos (c := (consP s a).2.2 ≠ 0) h0]
    · rw [if_neg hlt, if_neg hlt]
/-- The tokens of a document that ends with a tag, with another document behind it. -/
theorem tokGo_left (s r : ByteArray) : ∀ f a acc F, s.size - a < f → (s ++ r).size - a < F → a ≤ s.size → (tokGo s f a acc).2.2 = 0 → (∀ x, (tokGo s f a acc).1.getLast? = some x → x.kind ≠ 3) → ∃ G, (s ++ r).size - s.size < G ∧ tokGo (s ++ r) F a acc = tokGo (s ++ r) G s.size (tokGo s f a acc).1
  | 0, _, _, _, h, _, _, _, _ => absurd h (by omega)
  | f + 1, a, acc, 0, _, h, _, _, _ => absurd h (by omega)
  | f + 1, a, acc, F + 1, hf, hF, ha, h0, hk => by
    have hz : (s ++ r).size = s.size + r.size := ByteArray.size_append
    by_cases hlt : a < s.size
    · have e1 : tokGo s (f + 1) a acc = (if (consP s a).2.2 ≠ 0 then ([], (consP s a).2.1, (consP s a).2.2) else tokGo s f (consP s a).2.1.toNat (if (consP s a).1.kind ≠ 3 ∨ (consP s a).1.tx ≠ [] then acc ++ [(consP s a).1] else acc)) := by rw [tokGo, if_pos hlt]
      rw [e1] at h0 hk ⊢
      clear e1
      by_cases hc : (consP s a).2.2 = 0
      · rw [if_neg (c := (consP s a).2.2 ≠ 0) (fun q => q hc)] at h0 hk ⊢
        obtain ⟨z, hzz, hz1, hz2⟩ := consP_ok s a hlt hc
        rw [hzz, Int.toNat_natCast] at h0 hk ⊢
        have hd : hasP s.data.toList (a : Int) [60] = false → nextP s.data.toList a [60] ≠ -1 := by
          intro h60 hn
          have hnf : ∀ t, hasP s.data.toList (a : Int) (60 :: t) = false := fun t => by
            cases hq : hasP s.data.toList (a : Int) (60 :: t) with
            | false => rfl
            | true =>
              exfalso
              unfold hasP at hq h60
              rw [Bool.and_eq_true] at hq
              rw [hq.1, Bool.true_and] at h60
              obtain ⟨y, hy⟩ := List.isPrefixOf_iff_prefix.1 hq.2
              rw [← hy] at h60
              simp at h60
          have hcd : consP s a = dataP s a := by
            unfold consP
            simp only [hnf, Bool.false_eq_true, if_false]
          have hde : dataEnd s a = s.size := by unfold dataEnd; rw [hn, if_pos (by decide)]
          have hcp : (contP s.data.toList a s.size false).2.2 = 0 := by
            rw [hcd] at hc
            unfold dataP at hc
            rw [hde] at hc
            exact hc
          have hne := contP_ne s.data.toList a s.size false hlt (by rw [bsl]; exact Nat.le_refl _) hcp
          have htx : (consP s a).1 = tokT (contP s.data.toList a s.size false).1 a := by rw [hcd]; unfold dataP; rw [hde]
          have hzs : z = s.size := by
            have h1 := contP_ok _ _ _ _ hcp
            rw [hcd] at hzz
            unfold dataP at hzz
            rw [hde, h1] at hzz
            omega
          rw [htx, hzs] at hk
          obtain ⟨f', rfl⟩ : ∃ f', f = f' + 1 := ⟨f - 1, by omega⟩
          rw [if_pos (.inr hne), tokGo, if_neg (Nat.lt_irrefl _)] at hk
          exact hk _ List.getLast?_concat rfl
        have hcl := consP_left s r a hlt hc hd
        obtain ⟨G, hG, e⟩ := tokGo_left s r f z _ F (by omega) (by omega) hz2 h0 hk
        refine ⟨G, hG, ?_⟩
        rw [tokGo, if_pos (by omega), hcl, if_neg (c := (consP s a).2.2 ≠ 0) (fun q => q hc), hzz, Int.toNat_natCast]
        exact e
      · rw [if_pos (c := (consP s a).2.2 ≠ 0) hc] at h0
        exact absurd h0 hc
    · obtain rfl : a = s.size := by omega
      refine ⟨F + 1, hF, ?_⟩
      have e2 : tokGo s (f + 1) s.size acc = (acc, (s.size : Int), 0) := by rw [tokGo, if_neg hlt]
      rw [e2]
theorem bom_left (s t : ByteArray) (hs : (chk s).2 = 0) (h0 : 0 < s.size) : hasP (s ++ t).data.toList 0 [239, 187, 191] = hasP s.data.toList 0 [239, 187, 191] := by
  rcases Nat.lt_or_ge s.size 3 with h | h
  · have hn : hasP s.data.toList ((0 : Nat) : Int) [239, 187, 191] = false := by
      cases hq : hasP s.data.toList ((0 : Nat) : Int) [239, 187, 191] with
      | false => rfl
      | true =>
        have := hasP_len hq (by decide)
        rw [bsl] at this
        simp at this; omega
    rw [show (0 : Int) = ((0 : Nat) : Int) from rfl, hn]
    cases hq : hasP (s ++ t).data.toList ((0 : Nat) : Int) [239, 187, 191] with
    | false => rfl
    | true =>
      exfalso
      rw [bapp] at hq
      unfold hasP at hq
      rw [Bool.and_eq_true, Int.toNat_natCast, List.drop_zero] at hq
      obtain ⟨y, hy⟩ := List.isPrefixOf_iff_prefix.1 hq.2
      have hsl := bsl s
      have hs2 : s = ofBytes s.data.toList := (ofBytes_data s).symm
      rw [hs2] at hs
      match hl : s.data.toList, hsl with
      | [], hsl => simp at hsl; omega
      | [b], _ =>
        rw [hl] at hy hs
        have : b = 239 := by
          have := congrArg (·[0]?) hy
          simpa using this.symm
        subst this
        revert hs
        decide +kernel
      | [b, c], _ =>
        rw [hl] at hy hs
        have e1 : b = 239 := by
          have := congrArg (·[0]?) hy
          simpa using this.symm
        have e2 : c = 187 := by
          have := congrArg (·[1]?) hy
          simpa using this.symm
        subst e1 e2
        revert hs
        decide +kernel
      | _ :: _ :: _ :: _, hsl => simp at hsl; omega
  · rw [bapp]
    exact hasP_left _ _ 0 _ (by rw [bsl]; simpa using h)
theorem toks_conc (s t : ByteArray) (hs : (toksP s).2.2 = 0) (hl : (toksP s).1 ≠ []) (hk : ∀ x, (toksP s).1.getLast? = some x → x.kind ≠ 3) (hb : hasP t.data.toList 0 [239, 187, 191] = false) :
    toksP (s ++ t) = shG s.size (toksP s).1 (toksP t) := by
  have hz : (s ++ t).size = s.size + t.size := ByteArray.size_append
  have hc : (chk s).2 = 0 := by
    unfold toksP at hs
    by_cases h : (chk s).2 = 0
    · exact h
    · rw [if_pos h] at hs
      simp only at hs
      omega
  have h0 : 0 < s.size := by
    rcases Nat.eq_zero_or_pos s.size with h | h
    · exfalso
      apply hl
      unfold toksP
      rw [if_neg (by simpa using hc), tokGo, if_neg (by omega)]
    · exact h
  have hca := chk_append s t hc
  have hbl := bom_left s t hc h0
  obtain ⟨a, hadef⟩ : ∃ a, a = if hasP s.data.toList 0 [239, 187, 191] = true then 3 else 0 := ⟨_, rfl⟩
  have e0 : toksP s = tokGo s (s.size + 1) a [] := by
    unfold toksP
    rw [if_neg (show ¬ (chk s).2 ≠ 0 by simpa using hc), ← hadef]
  rw [e0] at hs hl hk ⊢
  by_cases hct : (chk t).2 = 0
  · have e1 : toksP t = tokGo t (t.size + 1) 0 [] := by
      unfold toksP
      rw [if_neg (show ¬ (chk t).2 ≠ 0 by simpa using hct), hb, if_neg ff]
    have e2 : toksP (s ++ t) = tokGo (s ++ t) ((s ++ t).size + 1) a [] := by
      unfold toksP
      rw [hca, hbl, ← hadef, if_neg (show ¬ (chk t).2 ≠ 0 by simpa using hct)]
    have ha : a ≤ s.size := by
      rw [hadef]
      split
      · rename_i h
        have := hasP_len (i := 0) h (by decide)
        rw [bsl] at this
        simpa using this
      · exact Nat.zero_le _
    obtain ⟨G, hG, e⟩ := tokGo_left s t (s.size + 1) a [] ((s ++ t).size + 1) (by omega) (by omega) ha hs hk
    rw [e1, e2, e, tokGo_more t (t.size + 1) G 0 [] (by omega) (by omega)]
    have hr := tokGo_right s t (tokGo s (s.size + 1) a []).1 G 0 [] (by omega) (Nat.zero_le _)
    rw [List.map_nil, List.append_nil, Nat.add_zero] at hr
    exact hr
  · have e1 : toksP t = ([], ((chk t).1 : Int), ((chk t).2 : Int)) := by
      unfold toksP
      rw [if_pos hct]
    have e2 : toksP (s ++ t) = ([], ((s.size + (chk t).1 : Nat) : Int), ((chk t).2 : Int)) := by
      unfold toksP
      rw [hca, if_pos hct]
    rw [e1, e2]
    unfold shG
    rw [if_neg (by simp only; omega)]
    simp only
    rw [show ((s.size + (chk t).1 : Nat) : Int) = (s.size : Int) + ((chk t).1 : Int) by omega]
end Go.Proofs.YtpphpnkijokffaaGreatDoor
