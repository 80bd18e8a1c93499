/- Plain facts of layer 6: an escaped string is read back. -/
import Derived.Test.YtpphpnkijokffaaDoorTokE
import Derived.Test.YtpphpnkijokffaaDoorEscC
import Derived.Test.YtpphpnkijokffaaDoorTokM
import Derived.Test.YtpphpnkijokffaaDoorTextM
import Derived.Test.YtpphpnkijokffaaDoorTokS
import Derived.Lib.IndexMore
namespace Go.Proofs.YtpphpnkijokffaaDoor
open Go.RowKit

/-! ### Plain facts of layer 6: what content makes of an escaped string. -/
theorem linesP_plain : ∀ l : List UInt8, (∀ x ∈ l, x ≠ 13) → linesP l = l
  | [], _ => rfl
  | c :: r, h => by
    have hc := h c List.mem_cons_self
    rw [linesP, if_neg (fun e => hc e.1), if_neg hc, linesP_plain r fun x hx => h x (List.mem_cons_of_mem _ hx)]
theorem spMap_plain (v : Bool) : ∀ l : List UInt8, (v = true → ∀ x ∈ l, x ≠ 9 ∧ x ≠ 10 ∧ x ≠ 13) → spMap v l = l := by
  intro l h
  unfold spMap
  cases v
  · rfl
  · have h1 := h rfl
    simp only [if_true]
    conv => rhs; rw [← List.map_id l]
    refine List.map_congr_left fun x hx => ?_
    obtain ⟨a, b, c⟩ := h1 x hx
    unfold spOne
    split
    · rename_i hs
      have h32 : x = 32 := by
        apply UInt8.toNat_inj.1
        have h9 : x.toNat ≠ 9 := fun e => a (UInt8.toNat_inj.1 e)
        have h10 : x.toNat ≠ 10 := fun e => b (UInt8.toNat_inj.1 e)
        have h13 : x.toNat ≠ 13 := fun e => c (UInt8.toNat_inj.1 e)
        have : (x.toNat : Int) = 9 ∨ (x.toNat : Int) = 10 ∨ (x.toNat : Int) = 13 ∨ (x.toNat : Int) = 32 := by
          unfold spB isSpaceB at hs
          simp at hs
          omega
        show x.toNat = 32
        omega
      rw [h32]; rfl
    · rfl
/-- The characters up to the first that is escaped. -/
def plainOf (attr : Bool) (l : List UInt8) : List UInt8 := l.takeWhile fun c => escB attr c == [c]
theorem plain_split (attr : Bool) (l : List UInt8) : ∃ r, l = plainOf attr l ++ r ∧ (r = [] ∨ ∃ c t, r = c :: t ∧ escB attr c ≠ [c]) := by
  induction l with
  | nil => exact ⟨[], rfl, .inl rfl⟩
  | cons c t ih =>
    by_cases h : escB attr c = [c]
    · obtain ⟨r, h1, h2⟩ := ih
      refine ⟨r, ?_, h2⟩
      unfold plainOf at h1 ⊢
      rw [List.takeWhile_cons, if_pos (by simpa using h), List.cons_append, ← h1]
    · refine ⟨c :: t, ?_, .inr ⟨c, t, rfl, h⟩⟩
      unfold plainOf
      rw [List.takeWhile_cons, if_neg (by simpa using h)]; rfl
theorem plain_all (attr : Bool) : ∀ (l : List UInt8), ∀ x ∈ plainOf attr l, escB attr x = [x]
  | [], x, hx => by cases hx
  | c :: t, x, hx => by
    unfold plainOf at hx
    rw [List.takeWhile_cons] at hx
    split at hx
    · rename_i h
      rcases List.mem_cons.1 hx with rfl | hx
      · simpa using h
      · exact plain_all attr t x hx
    · cases hx
theorem escP_plain (attr : Bool) : ∀ q : List UInt8, (∀ x ∈ q, escB attr x = [x]) → escP attr q = q
  | [], _ => rfl
  | c :: r, h => by rw [escP_cons, h c List.mem_cons_self, escP_plain attr r fun x hx => h x (List.mem_cons_of_mem _ hx)]; rfl
theorem amp_app (q r : List UInt8) (hq : ∀ x ∈ q, x ≠ 38) (hr : r = [] ∨ ∃ t, r = 38 :: t) : amp (q ++ r) = q := by
  induction q with
  | nil =>
    rcases hr with rfl | ⟨t, rfl⟩
    · rfl
    · rfl
  | cons c t ih =>
    rw [List.cons_append, amp_cons c _ (hq c List.mem_cons_self), ih fun x hx => hq x (List.mem_cons_of_mem _ hx)]
theorem escB_one {attr : Bool} {c : UInt8} (h : escB attr c = [c]) : c ≠ 38 ∧ c ≠ 13 ∧ (attr = true → c ≠ 9 ∧ c ≠ 10) := by
  refine ⟨?_, ?_, fun ha => ⟨?_, ?_⟩⟩
  · rintro rfl; cases attr <;> simp [escB] at h
  · rintro rfl; cases attr <;> simp [escB] at h
  · rintro rfl; rw [ha] at h; simp [escB] at h
  · rintro rfl; rw [ha] at h; simp [escB] at h
theorem contF_esc (attr v : Bool) (hv : v = true → attr = true) : ∀ (f : Nat) (l pre post out : List UInt8), (escP attr l).length < f →
    contF (pre ++ escP attr l ++ post) (pre.length + (escP attr l).length) v f pre.length out = (out ++ l, ((pre.length + (escP attr l).length : Nat) : Int), 0)
  | 0, l, pre, post, out, h => absurd h (by omega)
  | f + 1, [], pre, post, out, h => by
    rw [contF, if_neg (by show ¬ pre.length < pre.length + 0; omega), List.append_nil]
  | f + 1, c :: t, pre, post, out, h => by
    obtain ⟨r, h1, h2⟩ := plain_split attr (c :: t)
    have hq := plain_all attr (c :: t)
    generalize plainOf attr (c :: t) = q at *
    rcases Nat.eq_zero_or_pos q.length with h0 | h0
    · obtain rfl := List.length_eq_zero_iff.1 h0
      rw [List.nil_append] at h1
      subst h1
      rcases h2 with h2 | ⟨c', t', h2, h3⟩
      · cases h2
      · injection h2 with e1 e2
        subst e1 e2
        rcases esc_cases attr c with ⟨h4, _⟩ | ⟨body, h4, h5, h6, h7, h8⟩
        · exact absurd h4 h3
        · have hlen : (escB attr c).length = body.length + 2 := by rw [h4]; simp
          have hE : escP attr (c :: t) = 38 :: (body ++ 59 :: escP attr t) := by rw [escP_cons, h4]; simp
          have hL : (pre ++ escP attr (c :: t) ++ post).take (pre.length + (escP attr (c :: t)).length) = pre ++ 38 :: (body ++ 59 :: escP attr t) := by
            rw [← hE, ← List.length_append, List.take_left]
          have href := refAt_ent pre body (escP attr t) h5
          rw [if_pos (by rw [h6]; exact h7), h6] at href
          have hlE : (escP attr (c :: t)).length = body.length + 2 + (escP attr t).length := by rw [hE]; simp; omega
          have hget : (pre ++ escP attr (c :: t) ++ post).getD pre.length 0 = 38 := by
            rw [hE, List.getD_eq_getElem?_getD, List.append_assoc, List.getElem?_append_right (Nat.le_refl _), Nat.sub_self]; rfl
          have ih := contF_esc attr v hv f t (pre ++ escB attr c) post (out ++ [c]) (by rw [hlE] at h; omega)
          rw [contF, if_pos (by rw [hlE]; omega), if_pos hget, hL, href]
          simp only [if_true, Int.toNat_natCast]
          rw [h8]
          rw [List.length_append, hlen, show pre ++ escB attr c ++ escP attr t ++ post = pre ++ escP attr (c :: t) ++ post by rw [escP_cons]; simp] at ih
          rw [hlE, show pre.length + body.length + 2 = pre.length + (body.length + 2) by omega, show pre.length + (body.length + 2 + (escP attr t).length) = pre.length + (body.length + 2) + (escP attr t).length by omega, ih]
          simp
    · have hqs : escP attr (c :: t) = q ++ escP attr r := by rw [h1, escP_app, escP_plain attr q hq]
      have hlE : (escP attr (c :: t)).length = q.length + (escP attr r).length := by rw [hqs, List.length_append]
      have hr38 : escP attr r = [] ∨ ∃ t, escP attr r = 38 :: t := by
        rcases h2 with h2 | ⟨c', t', h2, h3⟩
        · left; rw [h2]; rfl
        · right
          rcases esc_cases attr c' with ⟨h4, _⟩ | ⟨body, h4, _⟩
          · exact absurd h4 h3
          · exact ⟨body ++ [59] ++ escP attr t', by rw [h2, escP_cons, h4]; simp⟩
      have hch : chunk (pre ++ escP attr (c :: t) ++ post) pre.length (pre.length + (escP attr (c :: t)).length) = q := by
        unfold chunk
        rw [List.append_assoc, List.drop_left, Nat.add_sub_cancel_left, List.take_left, hqs]
        exact amp_app q _ (fun x hx => (escB_one (hq x hx)).1) hr38
      have hget : (pre ++ escP attr (c :: t) ++ post).getD pre.length 0 ≠ 38 := by
        match q, h0 with
        | y :: q', _ =>
          rw [hqs, List.getD_eq_getElem?_getD, List.append_assoc, List.getElem?_append_right (Nat.le_refl _), Nat.sub_self]
          exact (escB_one (hq y List.mem_cons_self)).1
      have ih := contF_esc attr v hv f r (pre ++ q) post (out ++ q) (by rw [hlE] at h; omega)
      rw [contF, if_pos (by rw [hlE]; omega), if_neg hget, hch, linesP_plain q fun x hx => (escB_one (hq x hx)).2.1, spMap_plain v q fun hvt x hx => ⟨((escB_one (hq x hx)).2.2 (hv hvt)).1, ((escB_one (hq x hx)).2.2 (hv hvt)).2, (escB_one (hq x hx)).2.1⟩]
      rw [List.length_append, show pre ++ q ++ escP attr r ++ post = pre ++ escP attr (c :: t) ++ post by rw [hqs]; simp] at ih
      rw [hlE, ← Nat.add_assoc, ih, h1]
      simp
/-- What content makes of an escaped string between a place and another. -/
theorem contP_esc (attr v : Bool) (hv : v = true → attr = true) (l pre post : List UInt8) : contP (pre ++ escP attr l ++ post) pre.length (pre.length + (escP attr l).length) v = (l, ((pre.length + (escP attr l).length : Nat) : Int), 0) := by
  unfold contP
  have h := contF_esc attr v hv (pre.length + (escP attr l).length + 1) l pre post [] (by omega)
  rw [List.nil_append] at h
  exact h
/-! ### Plain facts of layer 6: a tag with one attribute, an escaped string, the end tag. -/
theorem dec_ascii (s : ByteArray) (i : Nat) (c : UInt8) (h : s.data.toList[i]? = some c) (hc : c.toNat < 128) : (decP s i).2 = 1 := by
  have hi : i < s.size := by
    have := (List.getElem?_eq_some_iff.1 h).1
    simpa using this
  have hb : byteZ s i = (c.toNat : Int) := by
    rw [byteZ_at s i hi]
    have h2 : s[i] = c := by
      rw [List.getElem?_eq_getElem (by simpa using hi)] at h
      have := Option.some.inj h
      rw [← this]
      simp [ByteArray.getElem_eq_getElem_data]
    rw [h2]
  have := dec_hit s i 1 (by omega) (by omega) (by omega) ((hit1 s i (by omega)).2 (by omega))
  exact this.2
theorem nmP_one (s : ByteArray) (i : Nat) (c d : UInt8) (hc : s.data.toList[i]? = some c) (hd : s.data.toList[i + 1]? = some d) (hc7 : c.toNat < 128) (hd7 : d.toNat < 128) (h1 : isQB (ofBytes [c]) = true) (h2 : isQB (ofBytes [c, d]) = false) : nmP s i = i + 1 := by
  have hsl : s.data.toList.length = s.size := by simp
  have hi : i + 1 < s.size := by rw [← hsl]; exact (List.getElem?_eq_some_iff.1 hd).1
  have e1 : s.extract i (i + 1) = ofBytes [c] := by
    rw [kext, show i + 1 - i = 1 by omega]
    rw [List.take_one, List.head?_drop, hc]; rfl
  have e2 : s.extract i (i + 2) = ofBytes [c, d] := by
    rw [kext, show i + 2 - i = 2 by omega]
    obtain ⟨h3, h4⟩ := List.getElem?_eq_some_iff.1 hc
    obtain ⟨h5, h6⟩ := List.getElem?_eq_some_iff.1 hd
    rw [List.drop_eq_getElem_cons h3, List.drop_eq_getElem_cons h5, h4, h6]
    rfl
  unfold nmP
  obtain ⟨n, hn⟩ : ∃ n, s.size = n + 1 := ⟨s.size - 1, by omega⟩
  rw [nmF, if_pos (by omega), dec_ascii s i c hc hc7, if_neg (by decide), e1, if_pos h1, hn, nmF, if_pos (by omega), dec_ascii s (i + 1) d hd hd7, if_neg (by decide), e2, h2]
  rfl
theorem spP_here (l : List UInt8) (i : Nat) (c : UInt8) (h : l[i]? = some c) (hc : spB c = false) : spP l i = i := by
  unfold spP
  obtain ⟨h3, h4⟩ := List.getElem?_eq_some_iff.1 h
  rw [List.drop_eq_getElem_cons h3, h4, List.takeWhile_cons, hc]; rfl
theorem spP_next (l : List UInt8) (i : Nat) (c : UInt8) (h : l[i]? = some c) (hc : spB c = true) : spP l i = spP l (i + 1) := by
  unfold spP
  obtain ⟨h3, h4⟩ := List.getElem?_eq_some_iff.1 h
  rw [List.drop_eq_getElem_cons h3, h4, List.takeWhile_cons, hc]
  simp only [if_true, List.length_cons]; omega
theorem quoAt_run (x : UInt8) : ∀ (q pre post : List UInt8), (∀ c ∈ q, c ≠ x ∧ c ≠ 60) → quoAt (pre ++ q ++ x :: post) x pre.length = pre.length + q.length := by
  intro q pre post h
  unfold quoAt
  rw [List.append_assoc, List.drop_left]
  congr 1
  have : (q ++ x :: post).takeWhile (fun c => c != x && c != 60) = q := by
    induction q with
    | nil => simp
    | cons y t ih =>
      have hy := h y List.mem_cons_self
      rw [List.cons_append, List.takeWhile_cons, if_pos (by simp [hy.1, hy.2]), ih fun c hc => h c (List.mem_cons_of_mem _ hc)]
  rw [this]
theorem hasP_at (pre t post : List UInt8) : hasP (pre ++ t ++ post) (pre.length : Int) t = true := by
  unfold hasP
  rw [decide_eq_true (by omega), Bool.true_and, Int.toNat_natCast, List.append_assoc, List.drop_left]
  exact List.isPrefixOf_iff_prefix.2 (List.prefix_append _ _)
theorem hasP_head (pre : List UInt8) (c d : UInt8) (t r : List UInt8) (h : c ≠ d) : hasP (pre ++ c :: r) (pre.length : Int) (d :: t) = false := by
  unfold hasP
  rw [decide_eq_true (by omega), Bool.true_and, Int.toNat_natCast, List.drop_left, List.isPrefixOf]
  simp [Ne.symm h]
/-! ### Plain facts of layer 6: an escaped string keeps the check of layer 1. -/
/-- What layer 1's check says of a list of bytes: nothing wrong. -/
def okL (l : List UInt8) : Prop := (chk (ofBytes l)).2 = 0
theorem ofBytes_app (a b : List UInt8) : ofBytes (a ++ b) = ofBytes a ++ ofBytes b := by
  apply ByteArray.ext
  apply Array.toList_inj.1
  rw [ByteArray.data_append, Array.toList_append, ofBytes_list, ofBytes_list, ofBytes_list]
theorem okL_app (a b : List UInt8) (ha : okL a) : okL (a ++ b) ↔ okL b := by
  unfold okL
  rw [ofBytes_app, chk_append _ _ ha]
theorem okL_nil : okL [] := by
  unfold okL chk
  rw [chkAt_end _ _ (by rw [ofBytes_size]; exact Nat.le_refl _)]
theorem okL_one (c : UInt8) (hc : c.toNat < 128) (h : isCharB (c.toNat : Int) = true) : okL [c] := by
  have hz : (ofBytes [c]).size = 1 := ofBytes_size [c]
  have hb : byteZ (ofBytes [c]) 0 = (c.toNat : Int) := by
    rw [byteZ_at _ 0 (by omega)]; rfl
  have hd := dec_hit (ofBytes [c]) 0 1 (by omega) (by omega) (by omega) ((hit1 _ 0 (by omega)).2 (by omega))
  rw [acc1, hb] at hd
  unfold okL chk
  rw [chkAt_eq _ 0 (by omega), hd.2, if_neg (by decide), hd.1, if_pos h, chkAt_end _ _ (by omega)]
theorem okL_ascii : ∀ l : List UInt8, (l.all fun c => decide (c.toNat < 128) && isCharB (c.toNat : Int)) = true → okL l
  | [], _ => okL_nil
  | c :: t, h => by
    rw [List.all_cons, Bool.and_eq_true, Bool.and_eq_true, decide_eq_true_eq] at h
    rw [show c :: t = [c] ++ t from rfl, okL_app _ _ (okL_one c h.1.1 h.1.2)]
    exact okL_ascii t h.2
set_option maxRecDepth 100000 in
theorem esc_high : ∀ n : Fin 256, 128 ≤ n.val → escB false (UInt8.ofNat n.val) = [UInt8.ofNat n.val] ∧ escB true (UInt8.ofNat n.val) = [UInt8.ofNat n.val] := by decide
set_option maxRecDepth 100000 in
theorem esc_low : ∀ n : Fin 128, isCharB (n.val : Int) = true → ((escB false (UInt8.ofNat n.val)).all fun c => decide (c.toNat < 128) && isCharB (c.toNat : Int)) = true ∧ ((escB true (UInt8.ofNat n.val)).all fun c => decide (c.toNat < 128) && isCharB (c.toNat : Int)) = true := by decide
theorem escB_high (attr : Bool) (c : UInt8) (h : 128 ≤ c.toNat) : escB attr c = [c] := by
  have := esc_high ⟨c.toNat, c.toNat_lt⟩ h
  rw [UInt8.ofNat_toNat] at this
  cases attr
  · exact this.1
  · exact this.2
theorem escB_low (attr : Bool) (c : UInt8) (hc : c.toNat < 128) (h : isCharB (c.toNat : Int) = true) : okL (escB attr c) := by
  have := esc_low ⟨c.toNat, hc⟩ h
  simp only [UInt8.ofNat_toNat] at this
  cases attr
  · exact okL_ascii _ this.1
  · exact okL_ascii _ this.2
theorem byteZ_get (l : List UInt8) (i : Nat) (h : i < l.length) : byteZ (ofBytes l) i = ((l[i]).toNat : Int) := by
  rw [byteZ_at _ i (by rw [ofBytes_size]; exact h)]
  simp [ofBytes, ByteArray.getElem_eq_getElem_data]
/-- A checked list begins with a character: its bytes are one of ASCII, or none is. -/
theorem okL_head (c : UInt8) (t : List UInt8) (h : okL (c :: t)) : ∃ a b, c :: t = a ++ b ∧ 0 < a.length ∧ okL a ∧ okL b ∧ ((a = [c] ∧ c.toNat < 128 ∧ isCharB (c.toNat : Int) = true) ∨ ∀ x ∈ a, 128 ≤ x.toNat) := by
  have hz : (ofBytes (c :: t)).size = t.length + 1 := ofBytes_size (c :: t)
  have h' := h
  unfold okL chk at h'
  rw [chkAt_eq _ 0 (by omega)] at h'
  have h0 : (decP (ofBytes (c :: t)) 0).2 ≠ 0 := by
    intro e; rw [if_pos e] at h'; cases h'
  rw [if_neg h0] at h'
  have hch : isCharB ((decP (ofBytes (c :: t)) 0).1 : Int) = true := by
    cases hb : isCharB ((decP (ofBytes (c :: t)) 0).1 : Int)
    · rw [hb] at h'; cases h'
    · rfl
  obtain ⟨k, h1, h2, h3, hb⟩ : ∃ k, 1 ≤ k ∧ k ≤ 4 ∧ 0 + k ≤ (ofBytes (c :: t)).size ∧ hitB (ofBytes (c :: t)) 0 k = true := by
    apply Classical.byContradiction
    intro hno
    apply h0
    rw [dec_miss _ 0 (by omega) fun k h1 h2 h3 => by
      cases hb : hitB (ofBytes (c :: t)) 0 k
      · rfl
      · exact absurd ⟨k, h1, h2, h3, hb⟩ hno]
  have hd := dec_hit _ 0 k h1 h2 h3 hb
  rw [hd.1] at hch
  refine ⟨(c :: t).take k, (c :: t).drop k, (List.take_append_drop k _).symm, by rw [List.length_take, List.length_cons]; omega, ?_⟩
  have hal : ((c :: t).take k).length = k := by rw [List.length_take, List.length_cons]; omega
  have hsplit : ofBytes (c :: t) = ofBytes ((c :: t).take k) ++ ofBytes ((c :: t).drop k) := by rw [← ofBytes_app, List.take_append_drop]
  have hza : (ofBytes ((c :: t).take k)).size = k := by rw [ofBytes_size, hal]
  have hba : hitB (ofBytes ((c :: t).take k)) 0 k = true := by
    rw [hsplit, hit_left _ _ 0 k h1 (by omega)] at hb; exact hb
  have hda := dec_hit _ 0 k h1 h2 (by omega) hba
  have hacc : accZ (ofBytes (c :: t)) 0 k (k - 1) = accZ (ofBytes ((c :: t).take k)) 0 k (k - 1) := by
    rw [hsplit, accZ_left _ _ 0 k (k - 1) (by omega)]
  have hoka : okL ((c :: t).take k) := by
    unfold okL chk
    rw [chkAt_eq _ 0 (by omega), hda.2, if_neg (by omega), hda.1, ← hacc, if_pos hch, chkAt_end _ _ (by omega)]
  have hokb : okL ((c :: t).drop k) := by
    have := h
    rw [← List.take_append_drop k (c :: t)] at this
    exact (okL_app _ _ hoka).1 this
  refine ⟨hoka, hokb, ?_⟩
  have hge : ∀ (i : Nat) (hi : i < k), 128 ≤ byteZ (ofBytes ((c :: t).take k)) i → 128 ≤ (((c :: t).take k)[i]'(by omega)).toNat := by
    intro i hi hh
    rw [byteZ_get _ i (by omega)] at hh
    omega
  rcases (by omega : k = 1 ∨ k = 2 ∨ k = 3 ∨ k = 4) with rfl | rfl | rfl | rfl
  · left
    have h5 := (hit1 _ 0 (by omega)).1 hb
    rw [byteZ_get (c :: t) 0 (by rw [List.length_cons]; omega)] at h5
    rw [acc1, byteZ_get (c :: t) 0 (by rw [List.length_cons]; omega)] at hch
    exact ⟨rfl, by have h6 : (c.toNat : Int) < 128 := h5; omega, hch⟩
  · right
    have h5 := (hit2 _ 0 (by omega)).1 hba
    intro x hx
    obtain ⟨i, hi, rfl⟩ := List.getElem_of_mem hx
    rw [hal] at hi
    refine hge i hi ?_
    have g0 := byteZ_lt (ofBytes ((c :: t).take 2)) 0
    rcases (by omega : i = 0 ∨ i = 1) with rfl | rfl
    · omega
    · have := h5.2.1; rw [Nat.zero_add] at this; omega
  · right
    have h5 := (hit3 _ 0 (by omega)).1 hba
    intro x hx
    obtain ⟨i, hi, rfl⟩ := List.getElem_of_mem hx
    rw [hal] at hi
    refine hge i hi ?_
    rcases (by omega : i = 0 ∨ i = 1 ∨ i = 2) with rfl | rfl | rfl
    · have := h5.1; omega
    · have := h5.2.1; rw [Nat.zero_add] at this; omega
    · have := h5.2.2.1; rw [Nat.zero_add] at this; omega
  · right
    have h5 := (hit4 _ 0 (by omega)).1 hba
    intro x hx
    obtain ⟨i, hi, rfl⟩ := List.getElem_of_mem hx
    rw [hal] at hi
    refine hge i hi ?_
    rcases (by omega : i = 0 ∨ i = 1 ∨ i = 2 ∨ i = 3) with rfl | rfl | rfl | rfl
    · have := h5.1; omega
    · have := h5.2.1; rw [Nat.zero_add] at this; omega
    · have := h5.2.2.1; rw [Nat.zero_add] at this; omega
    · have := h5.2.2.2.1; rw [Nat.zero_add] at this; omega
theorem okL_esc (attr : Bool) : ∀ (f : Nat) (l : List UInt8), l.length ≤ f → okL l → okL (escP attr l)
  | _, [], _, _ => okL_nil
  | 0, c :: t, h, _ => by rw [List.length_cons] at h; omega
  | f + 1, c :: t, h, hl => by
    obtain ⟨a, b, h1, h2, h3, h4, h5⟩ := okL_head c t hl
    have hlen : b.length ≤ f := by
      have := congrArg List.length h1
      rw [List.length_append] at this
      omega
    have ih := okL_esc attr f b hlen h4
    rw [h1, escP_app]
    refine (okL_app _ _ ?_).2 ih
    rcases h5 with ⟨rfl, h6, h7⟩ | h5
    · rw [escP_cons, show escP attr [] = [] from rfl, List.append_nil]
      exact escB_low attr c h6 h7
    · rw [escP_plain attr a fun x hx => escB_high attr x (h5 x hx)]
      exact h3
/-! ### Plain facts of layer 6: the tokens of a CDATA section. -/
def cdOpen : List UInt8 := [60, 33, 91, 67, 68, 65, 84, 65, 91]
def cdShut : List UInt8 := [93, 93, 62]
theorem index_shut : ∀ l : List UInt8, Lib.index (l ++ [93, 93]) cdShut = -1 → Lib.index (l ++ cdShut) cdShut = l.length
  | [], _ => by decide
  | c :: t, h => by
    rw [List.cons_append, Lib.index] at h ⊢
    have hp : cdShut.isPrefixOf (c :: (t ++ cdShut)) = cdShut.isPrefixOf (c :: (t ++ [93, 93])) := by
      rw [pre_take, pre_take]
      rw [show c :: (t ++ cdShut) = (c :: (t ++ [93, 93])) ++ [62] by simp [cdShut], List.take_append_of_le_length (by simp [cdShut])]
    rw [hp]
    split at h
    · cases h
    · rename_i hn
      rw [if_neg hn]
      have hge := Lib.index_ge (t ++ [93, 93]) cdShut
      have h2 : Lib.index (t ++ [93, 93]) cdShut = -1 := by
        simp only [beq_iff_eq] at h
        split at h <;> omega
      have ih := index_shut t h2
      rw [ih, List.length_cons]
      simp only [beq_iff_eq]
      split <;> omega
theorem cdata_next (l : List UInt8) (h : Lib.index (l ++ [93, 93]) cdShut = -1) : nextP (cdOpen ++ (l ++ cdShut)) 9 cdShut = ((l.length + 9 : Nat) : Int) := by
  unfold nextP
  rw [show (cdOpen ++ (l ++ cdShut)).drop 9 = l ++ cdShut from List.drop_left (l₁ := cdOpen), index_shut l h, if_neg (by omega)]
  omega
theorem cdata_cons (l : List UInt8) (h : Lib.index (l ++ [93, 93]) cdShut = -1) : consP (ofBytes (cdOpen ++ (l ++ cdShut))) 0 = (tokT (linesP l) 0, ((l.length + 12 : Nat) : Int), 0) := by
  have hn := cdata_next l h
  have hs : skipP (cdOpen ++ (l ++ cdShut)) 0 9 [93, 93, 62] = (((l.length + 12 : Nat) : Int), 0) := by
    unfold skipP
    rw [show (0 + 9 : Nat) = 9 from rfl, show ([93, 93, 62] : List UInt8) = cdShut from rfl, hn, if_neg (by omega)]
    simp [cdShut]
    omega
  unfold consP
  rw [ofBytes_list]
  have e1 : hasP (cdOpen ++ (l ++ cdShut)) ((0 : Nat) : Int) [60, 63] = false := by simp [hasP, cdOpen, List.isPrefixOf]
  have e2 : hasP (cdOpen ++ (l ++ cdShut)) ((0 : Nat) : Int) [60, 33, 45, 45] = false := by simp [hasP, cdOpen, List.isPrefixOf]
  have e3 : hasP (cdOpen ++ (l ++ cdShut)) ((0 : Nat) : Int) [60, 33, 91, 67, 68, 65, 84, 65, 91] = true := by simp [hasP, cdOpen, List.isPrefixOf]
  rw [e1, e2, e3, if_neg (by decide), if_neg (by decide), if_pos rfl]
  unfold cdataP
  rw [ofBytes_list, hs, if_neg (by simp)]
  have e4 : ((cdOpen ++ (l ++ cdShut)).drop (0 + 9)).take ((((l.length + 12 : Nat) : Int)).toNat - 3 - (0 + 9)) = l := by
    rw [show (0 + 9 : Nat) = 9 from rfl, show (cdOpen ++ (l ++ cdShut)).drop 9 = l ++ cdShut from List.drop_left (l₁ := cdOpen), Int.toNat_natCast, show l.length + 12 - 3 - 9 = l.length by omega, List.take_left]
  simp only [e4]
  rfl
theorem cdata_toks (l : List UInt8) (hl : l ≠ []) (hok : okL l) (h : Lib.index (l ++ [93, 93]) cdShut = -1) : toksP (ofBytes (cdOpen ++ (l ++ cdShut))) = ([tokT (linesP l) 0], ((l.length + 12 : Nat) : Int), 0) := by
  have hc : (chk (ofBytes (cdOpen ++ (l ++ cdShut)))).2 = 0 := (okL_app _ _ (okL_ascii cdOpen (by decide))).2 ((okL_app _ _ hok).2 (okL_ascii cdShut (by decide)))
  have hz : (ofBytes (cdOpen ++ (l ++ cdShut))).size = l.length + 12 := by rw [ofBytes_size]; simp [cdOpen, cdShut]
  have hcons := cdata_cons l h
  unfold toksP
  rw [if_neg (by rw [hc]; decide), ofBytes_list, if_neg (by simp [hasP, cdOpen, List.isPrefixOf]), hz, tokGo, if_pos (by omega), hcons, if_neg (by simp), if_pos (.inr (linesP_ne l hl)), Int.toNat_natCast, tokGo, if_neg (by omega), hz]
  rfl
/-! ### Plain facts of layer 6: the tokens of an escaped string as data and as a value. -/
theorem hasP_no {l : List UInt8} {i : Nat} {c d : UInt8} (t : List UInt8) (h : l[i]? = some c) (hne : c ≠ d) : hasP l (i : Int) (d :: t) = false := by
  obtain ⟨h3, h4⟩ := List.getElem?_eq_some_iff.1 h
  unfold hasP
  rw [decide_eq_true (by omega), Bool.true_and, Int.toNat_natCast, List.drop_eq_getElem_cons h3, h4, List.isPrefixOf]
  simp [Ne.symm hne]
theorem hasP_no2 {l : List UInt8} {i : Nat} {c d : UInt8} (c' d' : UInt8) (t : List UInt8) (h : l[i]? = some c) (h' : l[i + 1]? = some d) (hne : d ≠ d') : hasP l (i : Int) (c' :: d' :: t) = false := by
  obtain ⟨h3, h4⟩ := List.getElem?_eq_some_iff.1 h
  obtain ⟨h5, h6⟩ := List.getElem?_eq_some_iff.1 h'
  unfold hasP
  rw [decide_eq_true (by omega), Bool.true_and, Int.toNat_natCast, List.drop_eq_getElem_cons h3, List.drop_eq_getElem_cons h5, h4, h6, List.isPrefixOf, List.isPrefixOf]
  simp [Ne.symm hne]
theorem hasP_yes1 {l : List UInt8} {i : Nat} {c : UInt8} (h : l[i]? = some c) : hasP l (i : Int) [c] = true := by
  obtain ⟨h3, h4⟩ := List.getElem?_eq_some_iff.1 h
  unfold hasP
  rw [decide_eq_true (by omega), Bool.true_and, Int.toNat_natCast, List.drop_eq_getElem_cons h3, h4, List.isPrefixOf]
  simp
theorem hasP_yes2 {l : List UInt8} {i : Nat} {c d : UInt8} (h : l[i]? = some c) (h' : l[i + 1]? = some d) : hasP l (i : Int) [c, d] = true := by
  obtain ⟨h3, h4⟩ := List.getElem?_eq_some_iff.1 h
  obtain ⟨h5, h6⟩ := List.getElem?_eq_some_iff.1 h'
  unfold hasP
  rw [decide_eq_true (by omega), Bool.true_and, Int.toNat_natCast, List.drop_eq_getElem_cons h3, List.drop_eq_getElem_cons h5, h4, h6, List.isPrefixOf, List.isPrefixOf]
  simp
theorem at_len (pre : List UInt8) (c : UInt8) (r : List UInt8) (n : Nat) (h : n = pre.length) : (pre ++ c :: r)[n]? = some c := by
  rw [h, List.getElem?_append_right (Nat.le_refl _), Nat.sub_self]; rfl
def vHead : List UInt8 := [60, 97, 32, 98, 61, 34]
def vTail : List UInt8 := [60, 47, 97, 62]
def vdoc (E F : List UInt8) : List UInt8 := vHead ++ (E ++ (34 :: 62 :: (F ++ vTail)))
theorem v_0 (E F) : (vdoc E F)[0]? = some 60 := rfl
theorem v_1 (E F) : (vdoc E F)[1]? = some 97 := rfl
theorem v_2 (E F) : (vdoc E F)[2]? = some 32 := rfl
theorem v_3 (E F) : (vdoc E F)[3]? = some 98 := rfl
theorem v_4 (E F) : (vdoc E F)[4]? = some 61 := rfl
theorem v_5 (E F) : (vdoc E F)[5]? = some 34 := rfl
theorem v_e (E F) : (vdoc E F)[6 + E.length]? = some 34 := by
  unfold vdoc
  rw [← List.append_assoc]
  exact at_len _ _ _ _ (by simp [vHead]; omega)
theorem v_e1 (E F) : (vdoc E F)[6 + E.length + 1]? = some 62 := by
  rw [show vdoc E F = (vHead ++ E ++ [34]) ++ 62 :: (F ++ vTail) by simp [vdoc]]
  exact at_len _ _ _ _ (by simp [vHead]; omega)
theorem v_q (E F) (k : Nat) (c : UInt8) (h : vTail[k]? = some c) : (vdoc E F)[8 + E.length + F.length + k]? = some c := by
  rw [show vdoc E F = (vHead ++ E ++ [34, 62] ++ F) ++ vTail by simp [vdoc], List.getElem?_append_right (by simp [vHead]; omega), ← h]
  congr 1
  simp [vHead]; omega
theorem v_len (E F) : (vdoc E F).length = 12 + E.length + F.length := by simp [vdoc, vHead, vTail]; omega
theorem q_a : isQB (ofBytes [97]) = true := by kernel_rfl
theorem q_b : isQB (ofBytes [98]) = true := by kernel_rfl
theorem q_as : isQB (ofBytes [97, 32]) = false := by kernel_rfl
theorem q_be : isQB (ofBytes [98, 61]) = false := by kernel_rfl
theorem q_ag : isQB (ofBytes [97, 62]) = false := by kernel_rfl
theorem v_attr (l F : List UInt8) : attrP (ofBytes (vdoc (escP true l) F)) 0 3 = (([98], l), ((7 + (escP true l).length : Nat) : Int), 0) := by
  have hn : nmP (ofBytes (vdoc (escP true l) F)) 3 = 4 := nmP_one _ 3 98 61 (by rw [ofBytes_list]; rfl) (by rw [ofBytes_list]; rfl) (by decide) (by decide) q_b q_be
  have hx := v_e (escP true l) F
  have hl := v_len (escP true l) F
  have hfree := (esc_free l).2
  have hc := contP_esc true true (fun _ => rfl) l vHead (34 :: 62 :: (F ++ vTail))
  have hq := quoAt_run 34 (escP true l) vHead (62 :: (F ++ vTail)) (fun c hc => ⟨fun e => hfree.2.2.2.1 (e ▸ hc), fun e => hfree.1 (e ▸ hc)⟩)
  rw [show vHead ++ escP true l ++ 34 :: 62 :: (F ++ vTail) = vdoc (escP true l) F by simp [vdoc], show vHead.length = 6 from rfl] at hc hq
  rw [attrP_def, hn, if_neg (by decide), ofBytes_list, spP_here _ 4 61 (v_4 _ _) (by decide)]
  unfold attr1
  rw [ofBytes_list, hasP_yes1 (v_4 _ _), if_pos rfl, spP_here _ 5 34 (v_5 _ _) (by decide)]
  unfold attr2
  rw [ofBytes_list, hasP_yes1 (v_5 _ _), if_pos rfl, show (5 + 1 : Nat) = 6 from rfl, hq]
  unfold attr3
  rw [ofBytes_list, show (5 + 1 : Nat) = 6 from rfl, hc]
  obtain ⟨h3, h4⟩ := List.getElem?_eq_some_iff.1 hx
  rw [attr4_ok (by rw [ofBytes_size]; exact h3) (by rw [ofBytes_list]; exact h3) (y := 34) (by simp only [ofBytes_list]; exact h4) (by decide)]
  refine Prod.ext (Prod.ext rfl rfl) (Prod.ext ?_ rfl)
  show ((6 + (escP true l).length : Nat) : Int) + 1 = ((7 + (escP true l).length : Nat) : Int)
  omega
theorem v_start (l F : List UInt8) : startP (ofBytes (vdoc (escP true l) F)) 0 = ⟨[97], [attrOf [98] l 3], false, ((8 + (escP true l).length : Nat) : Int), 0⟩ := by
  have hn : nmP (ofBytes (vdoc (escP true l) F)) (0 + 1) = 2 := nmP_one _ 1 97 32 (by rw [ofBytes_list]; rfl) (by rw [ofBytes_list]; rfl) (by decide) (by decide) q_a q_as
  have hz : (ofBytes (vdoc (escP true l) F)).size = (10 + (escP true l).length + F.length) + 2 := by rw [ofBytes_size, v_len]; omega
  have s1 : spP (vdoc (escP true l) F) 2 = 3 := by
    rw [spP_next _ 2 32 (v_2 _ _) (by decide), spP_here _ 3 98 (v_3 _ _) (by decide)]
  have s2 : spP (vdoc (escP true l) F) (7 + (escP true l).length) = 7 + (escP true l).length := by
    have := v_e1 (escP true l) F
    rw [show 6 + (escP true l).length + 1 = 7 + (escP true l).length by omega] at this
    exact spP_here _ _ 62 this (by decide)
  have h62 : hasP (vdoc (escP true l) F) ((7 + (escP true l).length : Nat) : Int) [62] = true := by
    have := v_e1 (escP true l) F
    rw [show 6 + (escP true l).length + 1 = 7 + (escP true l).length by omega] at this
    exact hasP_yes1 this
  have ha := v_attr l F
  unfold startP
  rw [hn, if_neg (by decide), hz, ofBytes_list, startGo]
  simp only [ofBytes_list, s1]
  rw [hasP_no [] (v_3 _ _) (by decide), hasP_no [62] (v_3 _ _) (by decide), hasP_no [] (v_3 _ _) (by decide), if_neg (by decide), if_neg (by decide), if_neg (by decide), if_neg (by decide), ha, if_neg (by simp), if_neg (by simp), startGo]
  simp only [ofBytes_list, Int.toNat_natCast, s2]
  rw [h62, if_pos rfl]
  have hp : ((7 + (escP true l).length : Nat) : Int) + 1 = ((8 + (escP true l).length : Nat) : Int) := by omega
  rw [hp, List.nil_append]
  have hN : ((vdoc (escP true l) F).drop (0 + 1)).take (2 - (0 + 1)) = [97] := rfl
  rw [hN]
/-! ### Plain facts of layer 6: the tokens of an escaped string as data and as a value: the whole document. -/
theorem v_end (E F : List UInt8) : endP (ofBytes (vdoc E F)) (8 + E.length + F.length) = ([97], ((12 + E.length + F.length : Nat) : Int), 0) := by
  have a2 := v_q E F 2 97 rfl
  have a3 := v_q E F 3 62 rfl
  have hn : nmP (ofBytes (vdoc E F)) (8 + E.length + F.length + 2) = 8 + E.length + F.length + 2 + 1 := nmP_one _ _ 97 62 (by rw [ofBytes_list]; exact a2) (by rw [ofBytes_list]; exact a3) (by decide) (by decide) q_a q_ag
  have hN : ((vdoc E F).drop (8 + E.length + F.length + 2)).take (8 + E.length + F.length + 2 + 1 - (8 + E.length + F.length + 2)) = [97] := by
    obtain ⟨h5, h6⟩ := List.getElem?_eq_some_iff.1 a2
    rw [show 8 + E.length + F.length + 2 + 1 - (8 + E.length + F.length + 2) = 1 by omega, List.drop_eq_getElem_cons h5, h6]; rfl
  rw [endP_def, hn, if_neg (by omega), ofBytes_list, spP_here _ _ 62 a3 (by decide), hasP_yes1 a3, if_pos rfl, hN]
  refine Prod.ext rfl (Prod.ext ?_ rfl)
  show ((8 + E.length + F.length + 2 + 1 : Nat) : Int) + 1 = ((12 + E.length + F.length : Nat) : Int)
  omega
theorem next_lt : ∀ (F pre r : List UInt8), 60 ∉ F → nextP (pre ++ (F ++ 60 :: r)) pre.length [60] = ((pre.length + F.length : Nat) : Int)
  | [], pre, r, _ => by
    rw [List.nil_append, nextP_hit _ _ _ (by simp) (hasP_yes1 (c := 60) (at_len pre 60 r _ rfl))]; rfl
  | c :: t, pre, r, h => by
    have hc : (pre ++ (c :: t ++ 60 :: r))[pre.length]? = some c := at_len pre c (t ++ 60 :: r) _ rfl
    rw [nextP_miss _ _ _ (by simp) (hasP_no [] hc fun e => h (e ▸ List.mem_cons_self))]
    have ih := next_lt t (pre ++ [c]) r fun hm => h (List.mem_cons_of_mem _ hm)
    rw [List.length_append, show pre ++ [c] ++ (t ++ 60 :: r) = pre ++ (c :: t ++ 60 :: r) by simp, show pre.length + [c].length = pre.length + 1 from rfl] at ih
    rw [ih, List.length_cons]
    omega
theorem v_cons1 (l F : List UInt8) : consP (ofBytes (vdoc (escP true l) F)) 0 = (⟨1, [97], [attrOf [98] l 3], false, [], 0⟩, ((8 + (escP true l).length : Nat) : Int), 0) := by
  have a0 := v_0 (escP true l) F
  have a1 := v_1 (escP true l) F
  unfold consP
  rw [ofBytes_list, hasP_no2 60 63 [] a0 a1 (by decide), hasP_no2 60 33 [45, 45] a0 a1 (by decide), hasP_no2 60 33 [91, 67, 68, 65, 84, 65, 91] a0 a1 (by decide), hasP_no2 60 33 [68, 79, 67, 84, 89, 80, 69] a0 a1 (by decide), hasP_no2 60 33 [] a0 a1 (by decide), hasP_no2 60 47 [] a0 a1 (by decide), hasP_yes1 a0]
  rw [if_neg (by decide), if_neg (by decide), if_neg (by decide), if_neg (by decide), if_neg (by decide), if_neg (by decide), if_pos rfl, v_start]
  rfl
theorem v_cons2 (E l : List UInt8) (hl : l ≠ []) : consP (ofBytes (vdoc E (escP false l))) (8 + E.length) = (tokT l ((8 + E.length : Nat) : Int), ((8 + E.length + (escP false l).length : Nat) : Int), 0) := by
  have hfree := (esc_free l).1.1
  have hd : vdoc E (escP false l) = (vHead ++ E ++ [34, 62]) ++ (escP false l ++ 60 :: [47, 97, 62]) := by simp [vdoc, vTail]
  have hpl : (vHead ++ E ++ [34, 62]).length = 8 + E.length := by simp [vHead]; omega
  have hnext := next_lt (escP false l) (vHead ++ E ++ [34, 62]) [47, 97, 62] hfree
  have hcont := contP_esc false false (fun h => by cases h) l (vHead ++ E ++ [34, 62]) (60 :: [47, 97, 62])
  rw [List.append_assoc _ (escP false l)] at hcont
  rw [← hd, hpl] at hnext hcont
  obtain ⟨c, r, hcr⟩ : ∃ c r, escP false l = c :: r := by
    cases l with
    | nil => exact absurd rfl hl
    | cons x t =>
      rw [escP_cons]
      rcases esc_cases false x with ⟨h4, _⟩ | ⟨body, h4, _⟩
      · exact ⟨_, _, by rw [h4]; rfl⟩
      · exact ⟨_, _, by rw [h4]; rfl⟩
  have hc : (vdoc E (escP false l))[8 + E.length]? = some c := by
    rw [hd, hcr]
    exact at_len _ c _ _ hpl.symm
  have hne : c ≠ 60 := fun e => hfree (by rw [hcr, e]; exact List.mem_cons_self)
  have hde : dataEnd (ofBytes (vdoc E (escP false l))) (8 + E.length) = 8 + E.length + (escP false l).length := by
    unfold dataEnd
    rw [ofBytes_list, hnext, if_neg (by omega), Int.toNat_natCast]
  unfold consP
  rw [ofBytes_list, hasP_no _ hc hne, hasP_no _ hc hne, hasP_no _ hc hne, hasP_no _ hc hne, hasP_no _ hc hne, hasP_no _ hc hne, hasP_no _ hc hne]
  rw [if_neg (by decide), if_neg (by decide), if_neg (by decide), if_neg (by decide), if_neg (by decide), if_neg (by decide), if_neg (by decide)]
  unfold dataP
  rw [hde, ofBytes_list, hcont]
theorem v_cons3 (E F : List UInt8) : consP (ofBytes (vdoc E F)) (8 + E.length + F.length) = (⟨2, [97], [], false, [], ((8 + E.length + F.length : Nat) : Int)⟩, ((12 + E.length + F.length : Nat) : Int), 0) := by
  have a0 := v_q E F 0 60 rfl
  have a1 := v_q E F 1 47 rfl
  rw [Nat.add_zero] at a0
  unfold consP
  rw [ofBytes_list, hasP_no2 60 63 [] a0 a1 (by decide), hasP_no2 60 33 [45, 45] a0 a1 (by decide), hasP_no2 60 33 [91, 67, 68, 65, 84, 65, 91] a0 a1 (by decide), hasP_no2 60 33 [68, 79, 67, 84, 89, 80, 69] a0 a1 (by decide), hasP_no2 60 33 [] a0 a1 (by decide), hasP_yes2 a0 a1]
  rw [if_neg (by decide), if_neg (by decide), if_neg (by decide), if_neg (by decide), if_neg (by decide), if_pos rfl, v_end]
theorem tok_step (s : ByteArray) (f a : Nat) (acc : List TokD) (h : a < s.size) {t : TokD} {p : Int} (hc : consP s a = (t, p, 0)) (hk : t.kind ≠ 3 ∨ t.tx ≠ []) : tokGo s (f + 1) a acc = tokGo s f p.toNat (acc ++ [t]) := by
  rw [tokGo, if_pos h, hc]
  exact (if_neg (by simp)).trans (by rw [if_pos hk])
theorem tok_stop (s : ByteArray) (f a : Nat) (acc : List TokD) (h : s.size ≤ a) : tokGo s (f + 1) a acc = (acc, (s.size : Int), 0) := by
  rw [tokGo, if_neg (by omega)]
/-- The tokens of the document that holds an escaped string as a value and as data. -/
theorem v_toks (l : List UInt8) (hl : l ≠ []) (hok : okL l) : toksP (ofBytes (vdoc (escP true l) (escP false l))) =
    ([⟨1, [97], [attrOf [98] l 3], false, [], 0⟩, tokT l ((8 + (escP true l).length : Nat) : Int), ⟨2, [97], [], false, [], ((8 + (escP true l).length + (escP false l).length : Nat) : Int)⟩], ((12 + (escP true l).length + (escP false l).length : Nat) : Int), 0) := by
  have hE := okL_esc true l.length l (Nat.le_refl _) hok
  have hF := okL_esc false l.length l (Nat.le_refl _) hok
  have hc : (chk (ofBytes (vdoc (escP true l) (escP false l)))).2 = 0 :=
    (okL_app _ _ (okL_ascii vHead (by decide))).2 ((okL_app _ _ hE).2 ((okL_app [34, 62] _ (okL_ascii _ (by decide))).2 ((okL_app _ _ hF).2 (okL_ascii vTail (by decide)))))
  have hz : (ofBytes (vdoc (escP true l) (escP false l))).size = 12 + (escP true l).length + (escP false l).length := by rw [ofBytes_size, v_len]
  have c1 := v_cons1 l (escP false l)
  have c2 := v_cons2 (escP true l) l hl
  have c3 := v_cons3 (escP true l) (escP false l)
  unfold toksP
  rw [if_neg (by rw [hc]; decide), ofBytes_list, show hasP (vdoc (escP true l) (escP false l)) 0 [239, 187, 191] = false from hasP_no [187, 191] (v_0 _ _) (by decide), if_neg (by decide), hz]
  generalize ofBytes (vdoc (escP true l) (escP false l)) = S at *
  obtain ⟨m, hm⟩ : ∃ m, 12 + (escP true l).length + (escP false l).length = m + 3 := ⟨9 + (escP true l).length + (escP false l).length, by omega⟩
  rw [hm, tok_step S _ 0 _ (by omega) c1 (.inl (show (_ : Int) ≠ 3 by simp)), Int.toNat_natCast, tok_step S _ _ _ (by omega) c2 (.inr hl), Int.toNat_natCast, tok_step S _ _ _ (by omega) c3 (.inl (show (_ : Int) ≠ 3 by simp)), Int.toNat_natCast, hm, tok_stop S _ _ _ (by omega), hz, hm]
  rfl
/-! ### Plain facts of layer 6: the documents of an escaped string, as the law writes them. -/
theorem index_of_contains {l t : List UInt8} (h : Lib.contains l t = false) : Lib.index l t = -1 := by
  have hge := Lib.index_ge l t
  unfold Lib.contains at h
  have := of_decide_eq_false h
  omega
theorem index_pre (x : List UInt8) : ∀ l : List UInt8, Lib.index (l ++ x) cdShut = -1 → Lib.index l cdShut = -1
  | [], _ => by decide
  | c :: t, h => by
    rw [List.cons_append, Lib.index] at h
    rw [Lib.index]
    split at h
    · cases h
    · rename_i hn
      have hn' : ¬ cdShut.isPrefixOf (c :: t) = true := fun hp => hn (List.isPrefixOf_iff_prefix.2 ((List.isPrefixOf_iff_prefix.1 hp).trans (by rw [← List.cons_append]; exact List.prefix_append _ _)))
      have hge := Lib.index_ge (t ++ x) cdShut
      simp only [beq_iff_eq] at h
      have h2 : Lib.index (t ++ x) cdShut = -1 := by
        split at h <;> omega
      rw [if_neg hn', index_pre x t h2]; rfl
theorem contains_of_index {l t : List UInt8} (h : Lib.index l t = -1) : Lib.contains l t = false := by
  unfold Lib.contains
  rw [h]; rfl
theorem doc_value (E F : List UInt8) : (⟨#[60, 97, 32, 98, 61, 34]⟩ : ByteArray) ++ ofBytes E ++ ⟨#[34, 62]⟩ ++ ofBytes F ++ ⟨#[60, 47, 97, 62]⟩ = ofBytes (vdoc E F) := by
  rw [show (⟨#[60, 97, 32, 98, 61, 34]⟩ : ByteArray) = ofBytes vHead from rfl, show (⟨#[34, 62]⟩ : ByteArray) = ofBytes [34, 62] from rfl, show (⟨#[60, 47, 97, 62]⟩ : ByteArray) = ofBytes vTail from rfl, ← ofBytes_app, ← ofBytes_app, ← ofBytes_app, ← ofBytes_app]
  congr 1
  simp [vdoc]
theorem doc_cdata (s : ByteArray) : (⟨#[60, 33, 91, 67, 68, 65, 84, 65, 91]⟩ : ByteArray) ++ s ++ ⟨#[93, 93, 62]⟩ = ofBytes (cdOpen ++ (s.data.toList ++ cdShut)) := by
  rw [show (⟨#[60, 33, 91, 67, 68, 65, 84, 65, 91]⟩ : ByteArray) = ofBytes cdOpen from rfl, show (⟨#[93, 93, 62]⟩ : ByteArray) = ofBytes cdShut from rfl]
  conv => lhs; rw [← ofBytes_data s]
  rw [← ofBytes_app, ← ofBytes_app, List.append_assoc]
theorem doc_shut (s : ByteArray) : (s ++ ⟨#[93, 93]⟩).data.toList = s.data.toList ++ [93, 93] := by
  rw [ByteArray.data_append, Array.toList_append]
theorem okL_of (s : ByteArray) (h : (chk s).2 = 0) : okL s.data.toList := by unfold okL; rw [ofBytes_data]; exact h
end Go.Proofs.YtpphpnkijokffaaDoor
