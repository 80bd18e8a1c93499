/- Packed from the texts JpN JpC. -/
import Derived.Test.YtdooadalkbghgaaGreatDoorVJpB
import Derived.Test.YtdooadalkbghgaaGreatDoorVShelf
import Derived.Test.YtdooadalkbghgaaGreatDoorVkC
import Derived.Test.YtdooadalkbghgaaGreatDoorVkK
import Derived.Lib.ParseIntBTie
import Derived.Lib.SlTrimSet
import Derived.Shelf.Strings.SlTrimAscii
section
namespace Go.Proofs.YtdooadalkbghgaaGreatDoor
open Go.RowKit
theorem dval_mul : ∀ (l : List UInt8) (acc u : Nat), dvalN l acc = some u → acc * 10 ^ l.length ≤ u
  | [], acc, u, h => by
    rw [dvalN] at h
    cases h
    simp
  | c :: r, acc, u, h => by
    rw [dvalN] at h
    split at h
    · have := dval_mul r _ u h
      rw [List.length_cons, Nat.pow_succ]
      have h2 : acc * 10 * 10 ^ r.length ≤ (acc * 10 + (c.toNat - 48)) * 10 ^ r.length := Nat.mul_le_mul_right _ (by omega)
      have h3 : acc * (10 ^ r.length * 10) = acc * 10 * 10 ^ r.length := by rw [Nat.mul_assoc, Nat.mul_comm 10]
      omega
    · cases h
theorem pu_dval : ∀ (l : List UInt8) (acc u : Nat), Lib.parseUint10 acc l = .ok u → dvalN l acc = some u
  | [], acc, u, h => by
    rw [Lib.parseUint10] at h
    injection h with h
    rw [dvalN, h]
  | c :: r, acc, u, h => by
    rw [Lib.parseUint10] at h
    rw [dvalN]
    split at h
    · rename_i hc
      rw [if_pos hc]
      split at h
      · cases h
      · split at h
        · cases h
        · exact pu_dval r _ u h
    · cases h
theorem dval_ge : ∀ (l : List UInt8) (acc u : Nat), dvalN l acc = some u → acc ≤ u := fun l acc u h => by
  have h1 := dval_mul l acc u h
  have h2 : acc * 1 ≤ acc * 10 ^ l.length := Nat.mul_le_mul_left _ (Nat.one_le_pow _ _ (by decide))
  omega
theorem dval_pu : ∀ (l : List UInt8) (acc u : Nat), dvalN l acc = some u → u < 18446744073709551616 → Lib.parseUint10 acc l = .ok u
  | [], acc, u, h, _ => by
    rw [dvalN] at h
    rw [Lib.parseUint10]
    cases h
    rfl
  | c :: r, acc, u, h, hu => by
    rw [dvalN] at h
    rw [Lib.parseUint10]
    split at h
    · rename_i hc
      have := dval_ge r _ u h
      rw [if_pos hc, if_neg (by omega), if_neg (by omega)]
      exact dval_pu r _ u h hu
    · cases h
def lzP (m : List UInt8) : Prop := 1 < m.length ∧ m.getD 0 0 = 48
theorem mag_len (m : List UInt8) (u : Nat) (h : dvalN m 0 = some u) (hz : ¬ lzP m) (hu : u ≤ 9223372036854775808) : m.length ≤ 19 := by
  cases m with
  | nil => simp
  | cons c r =>
    rcases Nat.lt_or_ge 19 (c :: r).length with hl | hl
    · exfalso
      rw [List.length_cons] at hl
      rw [dvalN] at h
      split at h
      · rename_i hc
        have hc48 : c.toNat ≠ 48 := fun e => hz ⟨by rw [List.length_cons]; omega, by show c = 48; exact UInt8.toNat_inj.1 e⟩
        have h1 := dval_mul r _ u h
        have h2 : 1 * 10 ^ 19 ≤ (0 * 10 + (c.toNat - 48)) * 10 ^ r.length := Nat.mul_le_mul (by omega) (Nat.pow_le_pow_right (by decide) (by omega))
        have h3 : (1 : Nat) * 10 ^ 19 = 10000000000000000000 := by decide
        omega
      · cases h
    · exact hl
def trimM (l : List UInt8) : List UInt8 := Lib.trimPrefix l [45]
theorem trimM_minus (r : List UInt8) : trimM (45 :: r) = r := by
  unfold trimM Lib.trimPrefix Lib.hasPrefix
  simp [List.isPrefixOf]
theorem trimM_plain (c : UInt8) (r : List UInt8) (h : c ≠ 45) : trimM (c :: r) = c :: r := by
  unfold trimM Lib.trimPrefix Lib.hasPrefix
  have : ((45 : UInt8) == c) = false := by simpa using fun e : 45 = c => h e.symm
  simp [List.isPrefixOf, this]
theorem signed_ok (m : List UInt8) (v : Int) (h : Lib.signed (Lib.parseMag m) = .ok v) : ∃ u, m ≠ [] ∧ dvalN m 0 = some u ∧ u ≤ 9223372036854775808 ∧ v = -(u : Int) := by
  unfold Lib.parseMag at h
  split at h
  · cases h
  · rename_i hne
    rcases hp : Lib.parseUint10 0 m with u | _ | _
    rotate_left
    · rw [hp] at h; cases h
    · rw [hp] at h; cases h
    · rw [hp] at h
      simp only [Lib.signed] at h
      split at h
      · cases h
      · rename_i hu
        injection h with h
        exact ⟨u, hne, pu_dval m 0 u hp, by omega, h.symm⟩
theorem signless_ok (m : List UInt8) (v : Int) (h : Lib.signless (Lib.parseMag m) = .ok v) : ∃ u, m ≠ [] ∧ dvalN m 0 = some u ∧ u < 9223372036854775808 ∧ v = (u : Int) := by
  unfold Lib.parseMag at h
  split at h
  · cases h
  · rename_i hne
    rcases hp : Lib.parseUint10 0 m with u | _ | _
    rotate_left
    · rw [hp] at h; cases h
    · rw [hp] at h; cases h
    · rw [hp] at h
      simp only [Lib.signless] at h
      split at h
      · cases h
      · rename_i hu
        injection h with h
        exact ⟨u, hne, pu_dval m 0 u hp, by omega, h.symm⟩
theorem jnumD_some {g : Bool} {m : List UInt8} {n : Int} (h : jnumD g m = some n) : ∃ u, m ≠ [] ∧ m.length ≤ 19 ∧ ¬ lzP m ∧ dvalN m 0 = some u ∧ ((g = true ∧ u ≤ 9223372036854775808 ∧ n = -(u : Int)) ∨ (g = false ∧ u < 9223372036854775808 ∧ n = (u : Int))) := by
  by_cases hb : m = [] ∨ 19 < m.length ∨ (1 < m.length ∧ m.getD 0 0 = 48)
  · rw [jnumD_bad g m hb] at h
    cases h
  · rw [jnumD_ok g m hb] at h
    cases hd : dvalN m 0 with
    | none => rw [hd] at h; cases h
    | some u =>
      rw [hd] at h
      simp only at h
      refine ⟨u, fun e => hb (.inl e), by have : ¬ 19 < m.length := fun e => hb (.inr (.inl e)); omega, fun e => hb (.inr (.inr e)), rfl, ?_⟩
      cases g with
      | true =>
        rw [if_pos rfl] at h
        split at h
        · rename_i hu
          cases h
          exact .inl ⟨rfl, hu, rfl⟩
        · cases h
      | false =>
        rw [if_neg (by decide)] at h
        split at h
        · rename_i hu
          cases h
          exact .inr ⟨rfl, hu, rfl⟩
        · cases h
theorem jnum_code (l : List UInt8) (h : l.getD 0 0 = 45 ∨ (48 ≤ (l.getD 0 0).toNat ∧ (l.getD 0 0).toNat ≤ 57)) :
    (∀ v, Lib.parseIntB 64 l = .ok v → ¬ lzP (trimM l) → jnumL l = some v) ∧ ∀ n, jnumL l = some n → Lib.parseIntB 64 l = .ok n ∧ ¬ lzP (trimM l) := by
  rw [Lib.parseIntB_64]
  cases l with
  | nil =>
    exfalso
    rcases h with h | h
    · exact absurd h (by decide)
    · simp at h
  | cons c r =>
    have h : c = 45 ∨ (48 ≤ c.toNat ∧ c.toNat ≤ 57) := h
    by_cases hc : c = 45
    · subst hc
      rw [trimM_minus, Lib.atoiAll_minus, jnumL_neg _ rfl]
      show (∀ v, _ → _ → jnumD true r = some v) ∧ ∀ n, jnumD true r = some n → _
      constructor
      · intro v hv hz
        obtain ⟨u, hne, hd, hu, rfl⟩ := signed_ok r v hv
        have hl := mag_len r u hd hz hu
        rw [jnumD_ok true r (fun e => by rcases e with e | e | e; exact hne e; omega; exact hz e), hd]
        show (if true = true then (if u ≤ 9223372036854775808 then some (-(u : Int)) else none) else _) = _
        rw [if_pos rfl, if_pos hu]
      · intro n hn
        obtain ⟨u, hne, hl, hz, hd, hk⟩ := jnumD_some hn
        rcases hk with ⟨_, hu, rfl⟩ | ⟨hk, _⟩
        · refine ⟨?_, hz⟩
          unfold Lib.parseMag
          rw [if_neg hne, dval_pu r 0 u hd (by omega)]
          simp only [Lib.signed]
          rw [if_neg (by omega)]
        · cases hk
    · have h2 : 48 ≤ c.toNat ∧ c.toNat ≤ 57 := by rcases h with h | h; exact absurd h hc; exact h
      have h45 : c.toNat ≠ 45 := by omega
      have h43 : c.toNat ≠ 43 := by omega
      rw [trimM_plain c r hc, Lib.atoiAll_plain c r h43 h45, jnumL_pos (c :: r) (show ¬ c = 45 from hc)]
      constructor
      · intro v hv hz
        obtain ⟨u, hne, hd, hu, rfl⟩ := signless_ok (c :: r) v hv
        have hl := mag_len (c :: r) u hd hz (by omega)
        rw [jnumD_ok false (c :: r) (fun e => by rcases e with e | e | e; exact hne e; omega; exact hz e), hd]
        show (if false = true then _ else if u < 9223372036854775808 then some (u : Int) else none) = _
        rw [if_neg (by decide), if_pos hu]
      · intro n hn
        obtain ⟨u, hne, hl, hz, hd, hk⟩ := jnumD_some hn
        rcases hk with ⟨hk, _⟩ | ⟨_, hu, rfl⟩
        · cases hk
        · refine ⟨?_, hz⟩
          unfold Lib.parseMag
          rw [if_neg hne, dval_pu (c :: r) 0 u hd (by omega)]
          simp only [Lib.signless]
          rw [if_neg (by omega)]
end Go.Proofs.YtdooadalkbghgaaGreatDoor
end
section
namespace Go.Proofs.YtdooadalkbghgaaGreatDoor
open Go.RowKit
def numCut : ByteArray := ⟨#[48, 49, 50, 51, 52, 53, 54, 55, 56, 57, 43, 45, 46, 101, 69]⟩
theorem jascii (l : List UInt8) (h : ∀ b ∈ l, b.toNat < 128) (j : Nat) (b : UInt8) (e : l[j]? = some b) : b.toNat < 128 := h b (List.mem_of_getElem? e)
set_option maxRecDepth 100000 in
theorem cut_bytes : ∀ n : Fin 256, numCut.data.toList.contains (UInt8.ofNat n.val) = numP (UInt8.ofNat n.val) := by decide
theorem cut_byte (c : UInt8) : numCut.data.toList.contains c = numP c := by
  have := cut_bytes ⟨c.toNat, c.toNat_lt⟩
  simp only [UInt8.ofNat_toNat] at this
  exact this
theorem cut_len (l : List UInt8) : (l.takeWhile numP).length + (Lib.trimLeftS l numCut.data.toList).length = l.length := by
  have h1 : Lib.trimLeftS l numCut.data.toList = l.dropWhile numP := by
    unfold Lib.trimLeftS
    congr 1
    funext c
    exact cut_byte c
  rw [h1, ← List.length_append, List.takeWhile_append_dropWhile]
theorem take_num (l : List UInt8) : l.take (l.takeWhile numP).length = l.takeWhile numP := by
  have := List.takeWhile_append_dropWhile (p := numP) (l := l)
  conv => lhs; rhs; rw [← this]
  rw [List.take_left]
theorem jp_TrimLeft (t : ByteArray) (w : World) : Calls Tryz.prog 71 #[.string t, .string ⟨#[48, 49, 50, 51, 52, 53, 54, 55, 56, 57, 43, 45, 46, 101, 69]⟩] w fun e w' => e = .returned (.string (ofBytes (Lib.trimLeftS t.data.toList numCut.data.toList))) ∧ Below w.heap.size w w' :=
  Any.strings_TrimLeft_laid Tryz.lays161 (by kernel_rfl) t numCut w (by decide) (jascii _ (by decide))
theorem jp_TrimPrefix (t : ByteArray) (w : World) : Calls Tryz.prog 74 #[.string t, .string ⟨#[45]⟩] w fun e w' => e = .returned (.string (ofBytes (trimM t.data.toList))) ∧ w = w' :=
  (Tryz.strings_TrimPrefix t ⟨#[45]⟩ w).mono fun _ _ ⟨a, b⟩ => ⟨a, b.symm⟩
theorem jp_ParseInt_ok (t : ByteArray) (n : Int) (w : World) (hs : t.size ≤ 1000000) (h : Lib.parseIntB 64 t.data.toList = .ok n) :
    Calls Tryz.prog 72 #[.string t, .int .i64 10, .int .i64 64] w fun e w' => e = .returned (.tuple #[.int .i64 n, .nilIface]) ∧ Below w.heap.size w w' :=
  (Tryz.strconv_ParseInt_10_at64_ok t (by omega) n h w).mono fun _ _ ⟨a, b⟩ => ⟨a, by
    rcases b with b | ⟨u, b⟩
    · exact b ▸ Below.refl _ _
    · exact b ▸ conv_below w _ u⟩
theorem jp_ParseInt_bad (t : ByteArray) (w : World) (hs : t.size ≤ 1000000) (h : ∀ v, Lib.parseIntB 64 t.data.toList ≠ .ok v) (hT : TabV w) :
    Calls Tryz.prog 72 #[.string t, .int .i64 10, .int .i64 64] w fun e w' => (∃ N n, e = .returned (.tuple #[.int .i64 n, .iface 146 (.pointer (some ⟨N, 0, none⟩))])) ∧ Below w.heap.size w w' := by
  obtain ⟨⟨_, _, te, pe, hE⟩, tr, pr, hR⟩ := hT
  rcases hp : Lib.parseIntB 64 t.data.toList with v | _ | _
  · exact absurd hp (h v)
  · exact (Any.strconv_ParseInt_10_at64_syntax Tryz.laysC174 t (by omega) hp _ w hE (.inr ⟨te, pe, rfl⟩)).mono fun _ _ ⟨N, a, _, _, b⟩ => ⟨⟨N, _, a⟩, b⟩
  · exact (Tryz.strconv_ParseInt_10_at64_range t (by omega) hp _ w hR (.inr ⟨tr, pr, rfl⟩)).mono fun _ _ ⟨N, a, _, _, b⟩ => ⟨⟨N, _, a⟩, b⟩
theorem jp_seq (s : ByteArray) (i : Nat) (hi : i ≤ s.size) : ∃ R t : ByteArray, ∃ q : List UInt8, R = ofBytes (s.data.toList.drop i) ∧ R.data.toList = s.data.toList.drop i ∧ t = ofBytes q ∧ t.data.toList = q ∧ q = (s.data.toList.drop i).takeWhile numP ∧ t.size = q.length ∧ q.length + i ≤ s.size ∧ ((ofBytes (Lib.trimLeftS R.data.toList numCut.data.toList)).size : Int) ≤ R.size ∧ (R.size : Int) ≤ s.size ∧ t = R.extract 0 ((R.size : Int) - ((ofBytes (Lib.trimLeftS R.data.toList numCut.data.toList)).size : Int)).toNat := by
  have hsl : s.data.toList.length = s.size := by simp
  have h1 := cut_len (s.data.toList.drop i)
  have hz : ∀ l : List UInt8, (ofBytes l).size = l.length := fun l => by
    have : (ofBytes l).data.toList.length = (ofBytes l).size := by simp
    rw [ofBytes_list] at this
    omega
  have hd : (s.data.toList.drop i).length = s.size - i := by rw [List.length_drop, hsl]
  refine ⟨_, _, _, rfl, ofBytes_list _, rfl, ofBytes_list _, rfl, hz _, by omega, ?_, ?_, ?_⟩
  · rw [hz, hz, ofBytes_list]; omega
  · rw [hz]; omega
  · rw [kext, ofBytes_list, hz, hz]
    congr 1
    rw [List.drop_zero, Nat.sub_zero, show (((s.data.toList.drop i).length : Int) - ((Lib.trimLeftS (s.data.toList.drop i) numCut.data.toList).length : Int)).toNat = ((s.data.toList.drop i).takeWhile numP).length by omega, take_num]
set_option maxRecDepth 100000 in
set_option maxHeartbeats 8000000 in
theorem jp_number_ok (b : Nat) (s : ByteArray) (i : Nat) (n : Int) (w : World) (hC : Psr w b s i) (hi : i ≤ s.size) (hs : s.size ≤ 1000000) (hh : s.data.toList.getD i 0 = 45 ∨ (48 ≤ (s.data.toList.getD i 0).toNat ∧ (s.data.toList.getD i 0).toNat ≤ 57)) (h : jnumL ((s.data.toList.drop i).takeWhile numP) = some n) (hg : ((s.data.toList.drop i).takeWhile numP).getD 0 0 = s.data.toList.getD i 0) :
    Calls Tryz.prog 57 #[.pointer (some ⟨b, 0, none⟩)] w fun e w' => e = .returned (.int .i64 n) ∧ Psr w' b s ((i + ((s.data.toList.drop i).takeWhile numP).length : Nat) : Int) ∧ Pb b w w' := by
  obtain ⟨R, t, q, hR, hRl, ht, htl, hq, htz, hqi, hk0, hRs, hx⟩ := jp_seq s i hi
  rw [← hq] at h hg ⊢
  obtain ⟨hok, hnz⟩ := (jnum_code q (by rw [hg]; exact hh)).2 n h
  have cR := jp_rest b s i w hC hi
  rw [← hR] at cR
  have cL : ∀ wx, _ := fun wx => jp_TrimLeft R wx
  have cI : ∀ wx, _ := fun wx => jp_ParseInt_ok t n wx (by omega) (by rw [htl]; exact hok)
  have cP : ∀ wx, _ := fun wx => jp_TrimPrefix t wx
  rw [htl] at cP
  have cZ : ∀ wx, _ := fun wx => jp_leadingZero (ofBytes (trimM q)) wx
  rw [ofBytes_list, show (ofBytes (trimM q)).size = (trimM q).length by
    have : (ofBytes (trimM q)).data.toList.length = (ofBytes (trimM q)).size := by simp
    rw [ofBytes_list] at this
    omega, decide_eq_false (show ¬ (1 < (trimM q).length ∧ (trimM q).getD 0 0 = 48) from hnz)] at cZ
  generalize ofBytes (Lib.trimLeftS R.data.toList numCut.data.toList) = L at *
  have hsc : ∀ wx, _ := fun wx => slice_to R ((R.size : Int) - (L.size : Int)) (by omega) (by omega) wx
  rw [← hx] at hsc
  generalize ofBytes (trimM q) = M at *
  have hqz : (t.size : Int) ≤ 1000000 := by omega
  have hi6 : (i : Int) ≤ 1000000 := by omega
  have HZ := Lib.hid htz
  clear h hg hok hnz hq ht htl hR hRl hx hh hqi htz
  go_enter Tryz.func57, Tryz.ntmps57
  go_wp2_with fail
  refine cR.mono ?_
  rintro e w1 ⟨rfl, m, rfl⟩
  have P1 := hC.drewN m
  have K1 : Pb b w (w.drewN m) := (Pj.refl (fun k => k = b) w).drewN m
  generalize w.drewN m = w1 at *
  go_wp2_with fail
  refine (cL _).mono ?_
  rintro e w2 ⟨rfl, b2⟩
  have P2 := P1.more b2
  have K2 := K1.more b2
  clear P1 K1 b2 hC
  go_wp2_with fail
  refine (cI _).mono ?_
  rintro e w3 ⟨rfl, b3⟩
  have P3 := P2.more b3
  have K3 := K2.more b3
  have c1 := P3.c1
  have g1 := P3.f1
  have HP := Lib.hid (P3.set ((i : Int) + (t.size : Int)))
  have HK := Lib.hid (K3.set1 (.int .i64 ((i : Int) + (t.size : Int))))
  clear P2 K2 b3 P3 K3
  go_wp2_with fail
  refine (cP _).mono ?_
  rintro e w4 ⟨rfl, rfl⟩
  go_wp2_with fail
  refine (cZ _).mono ?_
  rintro e w4 ⟨rfl, rfl⟩
  go_wp2
  go_ret
  exact ⟨rfl, by rw [← HZ.out]; exact HP.out, HK.out⟩
set_option maxRecDepth 100000 in
set_option maxHeartbeats 8000000 in
theorem jp_number_bad (b : Nat) (s : ByteArray) (i : Nat) (w : World) (hC : Psr w b s i) (hi : i ≤ s.size) (hs : s.size ≤ 1000000) (hT : TabV w) (hh : s.data.toList.getD i 0 = 45 ∨ (48 ≤ (s.data.toList.getD i 0).toNat ∧ (s.data.toList.getD i 0).toNat ≤ 57)) (h : jnumL ((s.data.toList.drop i).takeWhile numP) = none) (hg : ((s.data.toList.drop i).takeWhile numP).getD 0 0 = s.data.toList.getD i 0) :
    Calls Tryz.prog 57 #[.pointer (some ⟨b, 0, none⟩)] w fun e w' => e = fltE i 15 ∧ Pb b w w' := by
  obtain ⟨R, t, q, hR, hRl, ht, htl, hq, htz, hqi, hk0, hRs, hx⟩ := jp_seq s i hi
  rw [← hq] at h hg
  have hcode := (jnum_code q (by rw [hg]; exact hh)).1
  have cR := jp_rest b s i w hC hi
  rw [← hR] at cR
  have cL : ∀ wx, _ := fun wx => jp_TrimLeft R wx
  have cP : ∀ wx, _ := fun wx => jp_TrimPrefix t wx
  rw [htl] at cP
  have cF : ∀ wx, _ := fun wx => jp_fail (i : Int) 15 wx
  generalize ofBytes (Lib.trimLeftS R.data.toList numCut.data.toList) = L at *
  have hsc : ∀ wx, _ := fun wx => slice_to R ((R.size : Int) - (L.size : Int)) (by omega) (by omega) wx
  rw [← hx] at hsc
  have hqz : (t.size : Int) ≤ 1000000 := by omega
  have hi6 : (i : Int) ≤ 1000000 := by omega
  by_cases hz : lzP (trimM q) ∧ ∃ v, Lib.parseIntB 64 q = .ok v
  · obtain ⟨hz, v, hv⟩ := hz
    have cI : ∀ wx, _ := fun wx => jp_ParseInt_ok t v wx (by omega) (by rw [htl]; exact hv)
    have cZ : ∀ wx, _ := fun wx => jp_leadingZero (ofBytes (trimM q)) wx
    rw [ofBytes_list, show (ofBytes (trimM q)).size = (trimM q).length by
      have : (ofBytes (trimM q)).data.toList.length = (ofBytes (trimM q)).size := by simp
      rw [ofBytes_list] at this
      omega, decide_eq_true (show 1 < (trimM q).length ∧ (trimM q).getD 0 0 = 48 from hz)] at cZ
    generalize ofBytes (trimM q) = M at *
    clear h hg hq ht htl hR hRl hx hh hqi htz hcode hz hv hT
    go_enter Tryz.func57, Tryz.ntmps57
    go_wp2_with fail
    refine cR.mono ?_
    rintro e w1 ⟨rfl, m, rfl⟩
    have P1 := hC.drewN m
    have K1 : Pb b w (w.drewN m) := (Pj.refl (fun k => k = b) w).drewN m
    generalize w.drewN m = w1 at *
    go_wp2_with fail
    refine (cL _).mono ?_
    rintro e w2 ⟨rfl, b2⟩
    have P2 := P1.more b2
    have K2 := K1.more b2
    clear P1 K1 b2 hC
    go_wp2_with fail
    refine (cI _).mono ?_
    rintro e w3 ⟨rfl, b3⟩
    have P3 := P2.more b3
    have K3 := K2.more b3
    have c1 := P3.c1
    have HK := Lib.hid K3
    clear P2 K2 b3 P3 K3
    go_wp2_with fail
    refine (cP _).mono ?_
    rintro e w4 ⟨rfl, rfl⟩
    go_wp2_with fail
    refine (cZ _).mono ?_
    rintro e w4 ⟨rfl, rfl⟩
    go_wp2_with fail
    refine (cF _).mono ?_
    rintro e w4 ⟨rfl, rfl⟩
    go_wp2
    exact ⟨rfl, rfl, HK.out⟩
  · have hbad : ∀ v, Lib.parseIntB 64 q ≠ .ok v := fun v hv => by
      have := hcode v hv (fun z => hz ⟨z, v, hv⟩)
      rw [h] at this
      cases this
    have cI : ∀ wx, TabV wx → _ := fun wx hT => jp_ParseInt_bad t wx (by omega) (by rw [htl]; exact hbad) hT
    clear h hg hq ht htl hR hRl hx hh hqi htz hcode hz hbad cP
    go_enter Tryz.func57, Tryz.ntmps57
    go_wp2_with fail
    refine cR.mono ?_
    rintro e w1 ⟨rfl, m, rfl⟩
    have P1 := hC.drewN m
    have T1 := TabV_below hT (jbelowN (Below.refl w.heap.size w) m)
    have K1 : Pb b w (w.drewN m) := (Pj.refl (fun k => k = b) w).drewN m
    generalize w.drewN m = w1 at *
    go_wp2_with fail
    refine (cL _).mono ?_
    rintro e w2 ⟨rfl, b2⟩
    have P2 := P1.more b2
    have K2 := K1.more b2
    have T2 := TabV_below T1 b2
    clear P1 K1 b2 hC hT T1
    go_wp2_with fail
    refine (cI _ T2).mono ?_
    rintro e w3 ⟨⟨N, u, rfl⟩, b3⟩
    have P3 := P2.more b3
    have K3 := K2.more b3
    have c1 := P3.c1
    have HK := Lib.hid K3
    clear P2 K2 b3 P3 K3 T2
    go_wp2_with fail
    refine (cF _).mono ?_
    rintro e w4 ⟨rfl, rfl⟩
    go_wp2
    exact ⟨rfl, rfl, HK.out⟩
end Go.Proofs.YtdooadalkbghgaaGreatDoor
end
