/- The reference of layer 6: Tokens: what it returns; rows of tokens; the laws' same; the examples. -/
import Derived.Test.YtpphpnkijokffaaGreatDoorTokJ
import Derived.Test.YtpphpnkijokffaaGreatDoorChk
import Derived.Lib.OwnKind
namespace Go.Proofs.YtpphpnkijokffaaGreatDoor
open Go.RowKit

/-! ### The reference of layer 6: Tokens: what it returns. -/
/-! ### a construct that is accepted ends behind its beginning -/
theorem contF_ok (l : List UInt8) (j : Nat) (v : Bool) : ∀ f i out, (contF l j v f i out).2.2 = 0 → (contF l j v f i out).2.1 = (j : Int)
  | 0, i, out, _ => rfl
  | f + 1, i, out, h => by
    rw [contF] at h ⊢
    split
    · rename_i h1
      rw [if_pos h1] at h
      split
      · rename_i h2
        rw [if_pos h2] at h
        split
        · rename_i h3
          rw [if_pos h3] at h
          exact contF_ok l j v f _ _ h
        · rename_i h3
          rw [if_neg h3] at h
          exact absurd h h3
      · rename_i h2
        rw [if_neg h2] at h
        exact contF_ok l j v f _ _ h
    · rfl
theorem contP_ok (l : List UInt8) (i j : Nat) (v : Bool) (h : (contP l i j v).2.2 = 0) : (contP l i j v).2.1 = (j : Int) := contF_ok l j v _ _ _ h
theorem skipP_ok (s : ByteArray) (i n : Nat) (t : List UInt8) (ht : t ≠ []) (hi : i + n ≤ s.size) (h : (skipP s.data.toList i n t).2 = 0) : ∃ z : Nat, (skipP s.data.toList i n t).1 = (z : Int) ∧ i < z ∧ z ≤ s.size := by
  have hsl : s.data.toList.length = s.size := by simp
  have h0 : 0 < t.length := List.length_pos_iff.2 ht
  unfold skipP at h ⊢
  split at h
  · simp at h
  · rename_i h1
    rw [if_neg h1]
    have hb := nextP_bd s.data.toList (i + n) t
    rw [hsl] at hb
    exact ⟨(nextP s.data.toList (i + n) t + (t.length : Int)).toNat, by omega, by omega, by omega⟩
theorem endP_ok (s : ByteArray) (i : Nat) (hi : i + 2 ≤ s.size) (h : (endP s i).2.2 = 0) : ∃ z : Nat, (endP s i).2.1 = (z : Int) ∧ i < z ∧ z ≤ s.size := by
  have hsl : s.data.toList.length = s.size := by simp
  rw [endP_def] at h ⊢
  have hb := nmP_le s (i + 2) hi
  generalize nmP s (i + 2) = n at *
  have hk := spP_le s.data.toList n (by omega)
  generalize spP s.data.toList n = k at *
  split at h
  · exact absurd h (misP_ne _ _ _)
  · rename_i h1
    rw [if_neg h1]
    split at h
    · rename_i h2
      rw [if_pos h2]
      have := hasP_len h2 (by decide)
      simp only [List.length_cons, List.length_nil] at this
      exact ⟨k + 1, by simp, by omega, by omega⟩
    · exact absurd h (misP_ne _ _ _)
theorem startGo_ok (s : ByteArray) (i : Nat) (N : List UInt8) : ∀ f a acc, s.size - a < f → i < a → a ≤ s.size → (startGo s i N f a acc).p2 = 0 → ∃ z : Nat, (startGo s i N f a acc).p1 = (z : Int) ∧ i < z ∧ z ≤ s.size
  | 0, a, acc, hf, _, _, _ => absurd hf (by omega)
  | f + 1, a, acc, hf, hia, ha, h => by
    have hsl : s.data.toList.length = s.size := by simp
    rw [startGo] at h ⊢
    have hk := spP_le s.data.toList a (by omega)
    rw [hsl] at hk
    generalize spP s.data.toList a = m at *
    split
    · rename_i h1
      have := hasP_len h1 (by decide)
      simp only [List.length_cons, List.length_nil] at this
      exact ⟨m + 1, by simp, by omega, by omega⟩
    · rename_i h1
      rw [if_neg h1] at h
      split
      · rename_i h2
        have := hasP_len h2 (by decide)
        simp only [List.length_cons, List.length_nil] at this
        exact ⟨m + 2, by simp, by omega, by omega⟩
      · rename_i h2
        rw [if_neg h2] at h
        split
        · rename_i h3
          rw [if_pos h3] at h
          exact absurd h (misP_ne _ _ _)
        · rename_i h3
          rw [if_neg h3] at h
          split
          · rename_i h4
            rw [if_pos h4] at h
            exact absurd h (misP_ne _ _ _)
          · rename_i h4
            rw [if_neg h4] at h
            split
            · rename_i h5
              rw [if_pos h5] at h
              exact absurd h h5
            · rename_i h5
              rw [if_neg h5] at h
              obtain ⟨z, hz, hz1, hz2⟩ := attrP_ok s i m (by omega) (by simpa using h5)
              split
              · rename_i h6
                rw [if_pos h6] at h
                simp at h
              · rename_i h6
                rw [if_neg h6] at h
                rw [hz, Int.toNat_natCast] at h ⊢
                exact startGo_ok s i N f z _ (by omega) (by omega) hz2 h
theorem startP_ok (s : ByteArray) (i : Nat) (hi : i + 1 ≤ s.size) (h : (startP s i).p2 = 0) : ∃ z : Nat, (startP s i).p1 = (z : Int) ∧ i < z ∧ z ≤ s.size := by
  unfold startP at h ⊢
  have hb := nmP_le s (i + 1) hi
  split
  · rename_i h1
    rw [if_pos h1] at h
    exact absurd h (misP_ne _ _ _)
  · rename_i h1
    rw [if_neg h1] at h
    exact startGo_ok s i _ _ _ _ (by omega) (by omega) hb.2 h
theorem consP_ok (s : ByteArray) (i : Nat) (hi : i < s.size) (h : (consP s i).2.2 = 0) : ∃ z : Nat, (consP s i).2.1 = (z : Int) ∧ i < z ∧ z ≤ s.size := by
  have hsl : s.data.toList.length = s.size := by simp
  unfold consP at h ⊢
  split
  · rename_i h1
    rw [if_pos h1] at h
    have := hasP_len h1 (by decide)
    rw [hsl] at this
    exact skipP_ok s i 2 _ (by decide) this h
  · rename_i h1
    rw [if_neg h1] at h
    split
    · rename_i h2
      rw [if_pos h2] at h
      have := hasP_len h2 (by decide)
      rw [hsl] at this
      exact skipP_ok s i 4 _ (by decide) this h
    · rename_i h2
      rw [if_neg h2] at h
      split
      · rename_i h3
        rw [if_pos h3] at h
        have hl := hasP_len h3 (by decide)
        rw [hsl] at hl
        unfold cdataP at h ⊢
        split
        · rename_i h4
          rw [if_pos h4] at h
          exact absurd h h4
        · rename_i h4
          exact skipP_ok s i 9 _ (by decide) hl (by simpa using h4)
      · rename_i h3
        rw [if_neg h3] at h
        split
        · rename_i h4
          rw [if_pos h4] at h
          simp at h
        · rename_i h4
          rw [if_neg h4] at h
          split
          · rename_i h5
            rw [if_pos h5] at h
            simp at h
          · rename_i h5
            rw [if_neg h5] at h
            split
            · rename_i h6
              rw [if_pos h6] at h
              have hl := hasP_len h6 (by decide)
              rw [hsl] at hl
              exact endP_ok s i hl h
            · rename_i h6
              rw [if_neg h6] at h
              split
              · rename_i h7
                rw [if_pos h7] at h
                have hl := hasP_len h7 (by decide)
                rw [hsl] at hl
                exact startP_ok s i hl h
              · rename_i h7
                rw [if_neg h7] at h
                unfold dataP at h ⊢
                have hb := dataEnd_bd s i (by omega)
                refine ⟨dataEnd s i, contP_ok _ _ _ _ h, ?_, hb.2⟩
                have hm := nextP_miss s.data.toList i [60] (by omega) (by simpa using h7)
                have hn := nextP_bd s.data.toList (i + 1) [60]
                unfold dataEnd
                rw [hm]
                split <;> omega

/-! ### rows of tokens -/
def tokCells (p : TokD × Value) : List Value := [.int .i64 p.1.kind, .string (ofBytes p.1.nm), p.2, .bool p.1.em, .string (ofBytes p.1.tx), .int .i64 p.1.at']
def toksCells (ps : List (TokD × Value)) : List Value := ps.flatMap tokCells
theorem toksCells_app (l m : List (TokD × Value)) : toksCells (l ++ m) = toksCells l ++ toksCells m := by unfold toksCells; rw [List.flatMap_append]
/-- A row of tokens that is owned, each with a row of attributes that is owned. -/
def TokRow (w : World) (B : Nat) (v : Value) (ps : List (TokD × Value)) : Prop := w.ownsRow B 35 6 v ps.length (toksCells ps) ∧ ∀ p ∈ ps, w.ownsRow B 37 4 p.2 p.1.al.length (attrsCells p.1.al)
theorem TokRow.below {w w' : World} {B : Nat} {v : Value} {ps : List (TokD × Value)} (h : TokRow w B v ps) (hb : Below w.heap.size w w') : TokRow w' B v ps := ⟨row_below h.1 hb, fun p hp => row_below (h.2 p hp) hb⟩
theorem rows_apart {w : World} {B B' : Nat} {e e' : TypeId} {k k' n n' : Nat} {v v' : Value} {xs xs' : List Value} (h : w.ownsRow B e k v n xs) (h' : w.ownsRow B' e' k' v' n' xs') (hne : e ≠ e') : v.ownBlock = none ∨ v.ownBlock ≠ v'.ownBlock := by
  rcases hg : v.ownBlock with _ | g
  · exact .inl rfl
  · right
    intro heq
    obtain ⟨c1, f1, h1⟩ := Go.Lib.ownsRow_kind h g hg
    obtain ⟨c2, f2, h2⟩ := Go.Lib.ownsRow_kind h' g heq.symm
    rw [h1] at h2
    injection h2 with h3
    injection h3 with _ h4
    exact hne h4

/-! ### Tokens -/
/-- What Tokens returns from a place on, with a bound on the number of steps. -/
def tokGo (s : ByteArray) : Nat → Nat → List TokD → List TokD × Int × Int
  | 0, _, acc => (acc, (s.size : Int), 0)
  | f + 1, a, acc => if a < s.size then (if (consP s a).2.2 ≠ 0 then ([], (consP s a).2.1, (consP s a).2.2)
      else tokGo s f (consP s a).2.1.toNat (if (consP s a).1.kind ≠ 3 ∨ (consP s a).1.tx ≠ [] then acc ++ [(consP s a).1] else acc)) else (acc, (s.size : Int), 0)
def toksP (s : ByteArray) : List TokD × Int × Int :=
  if (chk s).2 ≠ 0 then ([], ((chk s).1 : Int), ((chk s).2 : Int)) else tokGo s (s.size + 1) (if hasP s.data.toList 0 [239, 187, 191] then 3 else 0) []
/-- What the call gives. -/
def ToksIs (w0 : World) (R : List TokD × Int × Int) (e : Ending) (w' : World) : Prop := ∃ v ps, e = .returned (.tuple #[v, .int .i64 R.2.1, .int .i64 R.2.2]) ∧ ps.map Prod.fst = R.1 ∧ TokRow w' w0.heap.size v ps ∧ Below w0.heap.size w0 w'
/-! ### The reference of layer 6: Tokens: the walk. -/
theorem kinfo_tok : (Tryz.prog.info? 35).map (fun i => (i.zero, i.size, i.bytes)) = some (some (.agg #[.int .i64 0, .string ⟨#[]⟩, .slice none 0 0, .bool false, .string ⟨#[]⟩, .int .i64 0]), 6, 80) := by kernel_rfl
theorem tok_one (t : TokD) (A : Option Addr) (n c : Nat) : ∀ u ∈ tokCells (t, .slice A n c), u.oneCell' = true := by
  intro u hu
  simp [tokCells] at hu
  rcases hu with rfl | rfl | rfl | rfl | rfl | rfl <;> rfl
theorem tok_new (w : World) (ty : TypeId) (p : TokD × Value) : ∀ j u, (tokCells p)[j]? = some u → (w.alloc (.cells #[.int .i64 p.1.kind, .string (ofBytes p.1.nm), p.2, .bool p.1.em, .string (ofBytes p.1.tx), .int .i64 p.1.at'] ty)).cell? ((⟨w.heap.size, 0, none⟩ : Addr).add j) = some u := by
  intro j u hu
  rw [addr_add, World.cell?_alloc_at _ _ _ _ rfl, List.getElem?_toArray]
  exact hu
theorem tok_new2 (w : World) (o : Obj) (ty : TypeId) (p : TokD × Value) : ∀ j u, (tokCells p)[j]? = some u → ((w.alloc o).alloc (.cells #[.int .i64 p.1.kind, .string (ofBytes p.1.nm), p.2, .bool p.1.em, .string (ofBytes p.1.tx), .int .i64 p.1.at'] ty)).cell? ((⟨w.heap.size + 1, 0, none⟩ : Addr).add j) = some u := by
  have h : w.heap.size + 1 = (w.alloc o).heap.size := by simp
  rw [h]
  exact tok_new _ _ _
theorem tok_apart : (37 : TypeId) ≠ 35 := by decide

set_option maxRecDepth 100000 in
set_option maxHeartbeats 8000000 in
theorem tref_Tokens (s : ByteArray) (w : World) (hs : s.size ≤ 1000000) :
    Calls Tryz.prog 7 #[.string s] w fun e w' => ToksIs w (toksP s) e w' := by
  obtain ⟨i0, hi0, hi1, hi3, hi4⟩ := info_parts kinfo_tok
  have hsl : s.data.toList.length = s.size := by simp
  have HSL := Lib.hid hsl
  have cK : ∀ wx, _ := fun wx => ref_Check s wx (by unfold maxLen; omega)
  have cB : ∀ wx, _ := fun wx => tref_Has s ⟨#[239, 187, 191]⟩ 0 wx hs (by decide) (by decide) (by omega)
  rw [show (⟨#[239, 187, 191]⟩ : ByteArray).data.toList = [239, 187, 191] from rfl] at cB
  have hE : toksP s = if (chk s).2 ≠ 0 then ([], ((chk s).1 : Int), ((chk s).2 : Int)) else tokGo s (s.size + 1) (if hasP s.data.toList 0 [239, 187, 191] then 3 else 0) [] := rfl
  generalize toksP s = TP at *
  generalize chk s = ck at *
  obtain ⟨k1, k2⟩ := ck
  simp only at cK hE
  by_cases hk : k2 = 0
  · rw [if_neg (by simpa using hk)] at hE
    subst hk
    rw [show ((0 : Nat) : Int) = 0 from rfl] at cK
    rcases hB : hasP s.data.toList 0 [239, 187, 191] with _ | _
    · rw [hB] at hE cB
      rw [if_neg (show ¬ (false = true) by decide)] at hE
      have hq3 : 0 ≤ s.size := Nat.zero_le _
      clear hB hsl
      go_enter Tryz.func7, Tryz.ntmps7
      go_wp2_with fail
      refine (cK _).mono ?_
      rintro e w1 ⟨rfl, b1⟩
      (go_wp2_with fail); (refine (cB _).mono ?_); (rintro e w' ⟨rfl, rfl⟩)
      go_wp2
      go_loopw [5, 7] (fun a v wr => ∃ (k f : Nat) (ps : List (TokD × Value)) (A : Option Addr) (c : Nat), a = .int .i64 k ∧ k ≤ s.size ∧ TP = tokGo s f k (ps.map Prod.fst) ∧ s.size - k < f ∧ v = .slice A ps.length c ∧ TokRow wr w.heap.size (.slice A ps.length c) ps ∧ Below w.heap.size w wr ∧ ps.length ≤ k) (fun a _ _ => s.size - (intOf a).toNat)
      case atStart => exact ⟨0, s.size + 1, [], none, 0, rfl, hq3, hE, by omega, rfl, ⟨World.ownsRow_nil _ _ _ _, fun p hp => by cases hp⟩, b1, Nat.zero_le _⟩
      case round =>
        clear hE
        obtain ⟨k, f, ps, A, c, rfl, hk, hst, hf, rfl, hrow, hbel, hpl⟩ := hrel
        obtain ⟨f, rfl⟩ : ∃ g, f = g + 1 := ⟨f - 1, by omega⟩
        rw [tokGo] at hst
        have hz := hbel.size
        by_cases hlt : k < s.size
        · rw [if_pos hlt] at hst
          have hkz : (k : Int) < (s.size : Int) := by omega
          have cC : ∀ wx, _ := fun wx => tref_construct s k wx hs hlt
          have hok := consP_ok s k hlt
          generalize consP s k = cp at *
          obtain ⟨⟨kd, nm, al, em, tx, at'⟩, x1, x2⟩ := cp
          simp only at hst hok
          by_cases hx : x2 = 0
          · rw [if_neg (by simpa using hx)] at hst
            obtain ⟨z, rfl, hz1, hz2⟩ := hok hx
            subst hx
            rw [Int.toNat_natCast] at hst
            go_wp2_with fail
            refine (cC _).mono ?_
            rintro e w2 ⟨u, rfl, hown, b2⟩
            simp only [tokVal] at hown ⊢
            obtain ⟨A2, c2, rfl⟩ := own_form hown
            have hrow2 := hrow.below b2
            have hown2 := Go.Joins.ownsRow_le hown hz
            have hb2 : Below w.heap.size w w2 := hbel.trans (b2.mono hz)
            clear hrow hown b2 hbel
            by_cases hkd : kd = 3
            · by_cases htx : tx = []
              · rw [if_neg (by rintro (h | h) <;> contradiction)] at hst
                have hte : (ofBytes tx).toList.isEmpty = true := by rw [ByteArray.toList_eq, ofBytes_list, htx]; rfl
                subst hkd
                clear htx
                generalize ofBytes tx = TX at *
                go_wp2
                go_roundw
                case rel => exact ⟨z, f, ps, A, c, by go_num, hz2, hst, by omega, rfl, hrow2.below ((Below.refl _ _).alloc (Nat.le_refl _) _), hb2.alloc (by have := hb2.size; omega) _, by omega⟩
                case measure => simp [intOf]; omega
              · rw [if_pos (.inr htx)] at hst
                have hte : (ofBytes tx).toList.isEmpty = false := by
                  rw [ByteArray.toList_eq, ofBytes_list]
                  cases tx with
                  | nil => exact absurd rfl htx
                  | cons _ _ => rfl
                subst hkd
                go_wp2_with (at_builtin; refine wpList_append_own _ rfl (.tmp 45) (.tmp 47) 27 rfl w.heap.size 35 i0 (.agg #[.int .i64 0, .string ⟨#[]⟩, .slice none 0 0, .bool false, .string ⟨#[]⟩, .int .i64 0]) 6 80 Tryz.underlying27 hi0 hi1 hi3 hi4 rfl (by decide) (.slice A ps.length c) ps.length (toksCells ps) rfl ((hrow2.1.alloc _).alloc _) ⟨w2.heap.size + 1, 0, none⟩ 1 1 (tokCells (⟨3, nm, al, em, tx, at'⟩, .slice A2 al.length c2)) rfl rfl (tok_new2 _ _ _ (⟨3, nm, al, em, tx, at'⟩, .slice A2 al.length c2)) (tok_one _ _ _ _) (by unfold maxLen; omega) (by omega) (by simp; have := hb2.size; omega) ?_; intro v' w4 hown' hgr' _; obtain ⟨A', c', rfl⟩ := own_form hown')
                have hb4 : Below w.heap.size w w4 := ((hb2.alloc (by have := hb2.size; omega) _).alloc (by simp; have := hb2.size; omega) _).grown hgr' (by simp; have := hb2.size; omega) (fun g hg => (hrow2.1.lt g hg).1)
                have hrow5 : TokRow w4 w.heap.size (.slice A' (ps ++ [((⟨3, nm, al, em, tx, at'⟩ : TokD), Value.slice A2 al.length c2)]).length c') (ps ++ [((⟨3, nm, al, em, tx, at'⟩ : TokD), Value.slice A2 al.length c2)]) := by
                  refine ⟨?_, fun q hq => ?_⟩
                  · rw [toksCells_app, List.length_append]
                    exact hown'
                  · have hq2 : w2.ownsRow w.heap.size 37 4 q.2 q.1.al.length (attrsCells q.1.al) := by
                      rcases List.mem_append.1 hq with h | h
                      · exact hrow2.2 q h
                      · rw [List.mem_singleton.1 h]; exact hown2
                    exact ((hq2.alloc _).alloc _).kept hgr' (rows_apart hq2 hrow2.1 tok_apart)
                have hst2 : TP = tokGo s f z ((ps ++ [((⟨3, nm, al, em, tx, at'⟩ : TokD), Value.slice A2 al.length c2)]).map Prod.fst) := by rw [List.map_append]; exact hst
                clear hown' hgr' hrow2 hown2 hst
                go_wp2
                go_roundw
                case rel => exact ⟨z, f, _, A', c', by go_num, hz2, hst2, by omega, by rw [List.length_append]; rfl, hrow5, hb4, by rw [List.length_append, List.length_singleton]; omega⟩
                case measure => simp [intOf]; omega
            · rw [if_pos (.inl hkd)] at hst
              have hkdb : (kd != 3) = true := by simpa using hkd
              go_wp2_with (at_builtin; refine wpList_append_own _ rfl (.tmp 45) (.tmp 47) 27 rfl w.heap.size 35 i0 (.agg #[.int .i64 0, .string ⟨#[]⟩, .slice none 0 0, .bool false, .string ⟨#[]⟩, .int .i64 0]) 6 80 Tryz.underlying27 hi0 hi1 hi3 hi4 rfl (by decide) (.slice A ps.length c) ps.length (toksCells ps) rfl ((hrow2.1.alloc _).alloc _) ⟨w2.heap.size + 1, 0, none⟩ 1 1 (tokCells (⟨kd, nm, al, em, tx, at'⟩, .slice A2 al.length c2)) rfl rfl (tok_new2 _ _ _ (⟨kd, nm, al, em, tx, at'⟩, .slice A2 al.length c2)) (tok_one _ _ _ _) (by unfold maxLen; omega) (by omega) (by simp; have := hb2.size; omega) ?_; intro v' w4 hown' hgr' _; obtain ⟨A', c', rfl⟩ := own_form hown')
              have hb4 : Below w.heap.size w w4 := ((hb2.alloc (by have := hb2.size; omega) _).alloc (by simp; have := hb2.size; omega) _).grown hgr' (by simp; have := hb2.size; omega) (fun g hg => (hrow2.1.lt g hg).1)
              have hrow5 : TokRow w4 w.heap.size (.slice A' (ps ++ [((⟨kd, nm, al, em, tx, at'⟩ : TokD), Value.slice A2 al.length c2)]).length c') (ps ++ [((⟨kd, nm, al, em, tx, at'⟩ : TokD), Value.slice A2 al.length c2)]) := by
                refine ⟨?_, fun q hq => ?_⟩
                · rw [toksCells_app, List.length_append]
                  exact hown'
                · have hq2 : w2.ownsRow w.heap.size 37 4 q.2 q.1.al.length (attrsCells q.1.al) := by
                    rcases List.mem_append.1 hq with h | h
                    · exact hrow2.2 q h
                    · rw [List.mem_singleton.1 h]; exact hown2
                  exact ((hq2.alloc _).alloc _).kept hgr' (rows_apart hq2 hrow2.1 tok_apart)
              have hst2 : TP = tokGo s f z ((ps ++ [((⟨kd, nm, al, em, tx, at'⟩ : TokD), Value.slice A2 al.length c2)]).map Prod.fst) := by rw [List.map_append]; exact hst
              clear hown' hgr' hrow2 hown2 hst
              go_wp2
              go_roundw
              case rel => exact ⟨z, f, _, A', c', by go_num, hz2, hst2, by omega, by rw [List.length_append]; rfl, hrow5, hb4, by rw [List.length_append, List.length_singleton]; omega⟩
              case measure => simp [intOf]; omega
          · rw [if_pos hx] at hst
            have hxb : (x2 != 0) = true := by simpa using hx
            subst hst
            go_wp2_with fail
            refine (cC _).mono ?_
            rintro e w2 ⟨u, rfl, hown, b2⟩
            simp only [tokVal] at hown ⊢
            obtain ⟨A2, c2, rfl⟩ := own_form hown
            have hb2 : Below w.heap.size w w2 := hbel.trans (b2.mono hz)
            clear hrow hown b2 hbel hok hx
            go_wp2
            exact bodyPost_ret (v := .tuple #[.slice none 0 0, .int .i64 x1, .int .i64 x2]) (by simp [results, Tryz.results7, go_sem]) rfl ⟨_, [], rfl, rfl, ⟨World.ownsRow_nil _ _ _ _, fun p hp => by cases hp⟩, hb2.alloc (by have := hb2.size; omega) _⟩
        · rw [if_neg hlt] at hst
          have hkz : ¬ (k : Int) < (s.size : Int) := by omega
          subst hst
          go_wp2
          exact bodyPost_ret (v := .tuple #[.slice A ps.length c, .int .i64 s.size, .int .i64 0]) (by simp [results, Tryz.results7, go_sem]) rfl ⟨_, ps, rfl, rfl, hrow, hbel⟩
    · rw [hB] at hE cB
      rw [if_pos (show true = true from rfl)] at hE
      have hq3 : 3 ≤ s.size := by
        have := hasP_len (i := 0) hB (by decide)
        rw [hsl] at this
        simpa using this
      clear hB hsl
      go_enter Tryz.func7, Tryz.ntmps7
      go_wp2_with fail
      refine (cK _).mono ?_
      rintro e w1 ⟨rfl, b1⟩
      (go_wp2_with fail); (refine (cB _).mono ?_); (rintro e w' ⟨rfl, rfl⟩)
      go_wp2
      go_loopw [5, 7] (fun a v wr => ∃ (k f : Nat) (ps : List (TokD × Value)) (A : Option Addr) (c : Nat), a = .int .i64 k ∧ k ≤ s.size ∧ TP = tokGo s f k (ps.map Prod.fst) ∧ s.size - k < f ∧ v = .slice A ps.length c ∧ TokRow wr w.heap.size (.slice A ps.length c) ps ∧ Below w.heap.size w wr ∧ ps.length ≤ k) (fun a _ _ => s.size - (intOf a).toNat)
      case atStart => exact ⟨3, s.size + 1, [], none, 0, rfl, hq3, hE, by omega, rfl, ⟨World.ownsRow_nil _ _ _ _, fun p hp => by cases hp⟩, b1, Nat.zero_le _⟩
      case round =>
        clear hE
        obtain ⟨k, f, ps, A, c, rfl, hk, hst, hf, rfl, hrow, hbel, hpl⟩ := hrel
        obtain ⟨f, rfl⟩ : ∃ g, f = g + 1 := ⟨f - 1, by omega⟩
        rw [tokGo] at hst
        have hz := hbel.size
        by_cases hlt : k < s.size
        · rw [if_pos hlt] at hst
          have hkz : (k : Int) < (s.size : Int) := by omega
          have cC : ∀ wx, _ := fun wx => tref_construct s k wx hs hlt
          have hok := consP_ok s k hlt
          generalize consP s k = cp at *
          obtain ⟨⟨kd, nm, al, em, tx, at'⟩, x1, x2⟩ := cp
          simp only at hst hok
          by_cases hx : x2 = 0
          · rw [if_neg (by simpa using hx)] at hst
            obtain ⟨z, rfl, hz1, hz2⟩ := hok hx
            subst hx
            rw [Int.toNat_natCast] at hst
            go_wp2_with fail
            refine (cC _).mono ?_
            rintro e w2 ⟨u, rfl, hown, b2⟩
            simp only [tokVal] at hown ⊢
            obtain ⟨A2, c2, rfl⟩ := own_form hown
            have hrow2 := hrow.below b2
            have hown2 := Go.Joins.ownsRow_le hown hz
            have hb2 : Below w.heap.size w w2 := hbel.trans (b2.mono hz)
            clear hrow hown b2 hbel
            by_cases hkd : kd = 3
            · by_cases htx : tx = []
              · rw [if_neg (by rintro (h | h) <;> contradiction)] at hst
                have hte : (ofBytes tx).toList.isEmpty = true := by rw [ByteArray.toList_eq, ofBytes_list, htx]; rfl
                subst hkd
                clear htx
                generalize ofBytes tx = TX at *
                go_wp2
                go_roundw
                case rel => exact ⟨z, f, ps, A, c, by go_num, hz2, hst, by omega, rfl, hrow2.below ((Below.refl _ _).alloc (Nat.le_refl _) _), hb2.alloc (by have := hb2.size; omega) _, by omega⟩
                case measure => simp [intOf]; omega
              · rw [if_pos (.inr htx)] at hst
                have hte : (ofBytes tx).toList.isEmpty = false := by
                  rw [ByteArray.toList_eq, ofBytes_list]
                  cases tx with
                  | nil => exact absurd rfl htx
                  | cons _ _ => rfl
                subst hkd
                go_wp2_with (at_builtin; refine wpList_append_own _ rfl (.tmp 45) (.tmp 47) 27 rfl w.heap.size 35 i0 (.agg #[.int .i64 0, .string ⟨#[]⟩, .slice none 0 0, .bool false, .string ⟨#[]⟩, .int .i64 0]) 6 80 Tryz.underlying27 hi0 hi1 hi3 hi4 rfl (by decide) (.slice A ps.length c) ps.length (toksCells ps) rfl ((hrow2.1.alloc _).alloc _) ⟨w2.heap.size + 1, 0, none⟩ 1 1 (tokCells (⟨3, nm, al, em, tx, at'⟩, .slice A2 al.length c2)) rfl rfl (tok_new2 _ _ _ (⟨3, nm, al, em, tx, at'⟩, .slice A2 al.length c2)) (tok_one _ _ _ _) (by unfold maxLen; omega) (by omega) (by simp; have := hb2.size; omega) ?_; intro v' w4 hown' hgr' _; obtain ⟨A', c', rfl⟩ := own_form hown')
                have hb4 : Below w.heap.size w w4 := ((hb2.alloc (by have := hb2.size; omega) _).alloc (by simp; have := hb2.size; omega) _).grown hgr' (by simp; have := hb2.size; omega) (fun g hg => (hrow2.1.lt g hg).1)
                have hrow5 : TokRow w4 w.heap.size (.slice A' (ps ++ [((⟨3, nm, al, em, tx, at'⟩ : TokD), Value.slice A2 al.length c2)]).length c') (ps ++ [((⟨3, nm, al, em, tx, at'⟩ : TokD), Value.slice A2 al.length c2)]) := by
                  refine ⟨?_, fun q hq => ?_⟩
                  · rw [toksCells_app, List.length_append]
                    exact hown'
                  · have hq2 : w2.ownsRow w.heap.size 37 4 q.2 q.1.al.length (attrsCells q.1.al) := by
                      rcases List.mem_append.1 hq with h | h
                      · exact hrow2.2 q h
                      · rw [List.mem_singleton.1 h]; exact hown2
                    exact ((hq2.alloc _).alloc _).kept hgr' (rows_apart hq2 hrow2.1 tok_apart)
                have hst2 : TP = tokGo s f z ((ps ++ [((⟨3, nm, al, em, tx, at'⟩ : TokD), Value.slice A2 al.length c2)]).map Prod.fst) := by rw [List.map_append]; exact hst
                clear hown' hgr' hrow2 hown2 hst
                go_wp2
                go_roundw
                case rel => exact ⟨z, f, _, A', c', by go_num, hz2, hst2, by omega, by rw [List.length_append]; rfl, hrow5, hb4, by rw [List.length_append, List.length_singleton]; omega⟩
                case measure => simp [intOf]; omega
            · rw [if_pos (.inl hkd)] at hst
              have hkdb : (kd != 3) = true := by simpa using hkd
              go_wp2_with (at_builtin; refine wpList_append_own _ rfl (.tmp 45) (.tmp 47) 27 rfl w.heap.size 35 i0 (.agg #[.int .i64 0, .string ⟨#[]⟩, .slice none 0 0, .bool false, .string ⟨#[]⟩, .int .i64 0]) 6 80 Tryz.underlying27 hi0 hi1 hi3 hi4 rfl (by decide) (.slice A ps.length c) ps.length (toksCells ps) rfl ((hrow2.1.alloc _).alloc _) ⟨w2.heap.size + 1, 0, none⟩ 1 1 (tokCells (⟨kd, nm, al, em, tx, at'⟩, .slice A2 al.length c2)) rfl rfl (tok_new2 _ _ _ (⟨kd, nm, al, em, tx, at'⟩, .slice A2 al.length c2)) (tok_one _ _ _ _) (by unfold maxLen; omega) (by omega) (by simp; have := hb2.size; omega) ?_; intro v' w4 hown' hgr' _; obtain ⟨A', c', rfl⟩ := own_form hown')
              have hb4 : Below w.heap.size w w4 := ((hb2.alloc (by have := hb2.size; omega) _).alloc (by simp; have := hb2.size; omega) _).grown hgr' (by simp; have := hb2.size; omega) (fun g hg => (hrow2.1.lt g hg).1)
              have hrow5 : TokRow w4 w.heap.size (.slice A' (ps ++ [((⟨kd, nm, al, em, tx, at'⟩ : TokD), Value.slice A2 al.length c2)]).length c') (ps ++ [((⟨kd, nm, al, em, tx, at'⟩ : TokD), Value.slice A2 al.length c2)]) := by
                refine ⟨?_, fun q hq => ?_⟩
                · rw [toksCells_app, List.length_append]
                  exact hown'
                · have hq2 : w2.ownsRow w.heap.size 37 4 q.2 q.1.al.length (attrsCells q.1.al) := by
                    rcases List.mem_append.1 hq with h | h
                    · exact hrow2.2 q h
                    · rw [List.mem_singleton.1 h]; exact hown2
                  exact ((hq2.alloc _).alloc _).kept hgr' (rows_apart hq2 hrow2.1 tok_apart)
              have hst2 : TP = tokGo s f z ((ps ++ [((⟨kd, nm, al, em, tx, at'⟩ : TokD), Value.slice A2 al.length c2)]).map Prod.fst) := by rw [List.map_append]; exact hst
              clear hown' hgr' hrow2 hown2 hst
              go_wp2
              go_roundw
              case rel => exact ⟨z, f, _, A', c', by go_num, hz2, hst2, by omega, by rw [List.length_append]; rfl, hrow5, hb4, by rw [List.length_append, List.length_singleton]; omega⟩
              case measure => simp [intOf]; omega
          · rw [if_pos hx] at hst
            have hxb : (x2 != 0) = true := by simpa using hx
            subst hst
            go_wp2_with fail
            refine (cC _).mono ?_
            rintro e w2 ⟨u, rfl, hown, b2⟩
            simp only [tokVal] at hown ⊢
            obtain ⟨A2, c2, rfl⟩ := own_form hown
            have hb2 : Below w.heap.size w w2 := hbel.trans (b2.mono hz)
            clear hrow hown b2 hbel hok hx
            go_wp2
            exact bodyPost_ret (v := .tuple #[.slice none 0 0, .int .i64 x1, .int .i64 x2]) (by simp [results, Tryz.results7, go_sem]) rfl ⟨_, [], rfl, rfl, ⟨World.ownsRow_nil _ _ _ _, fun p hp => by cases hp⟩, hb2.alloc (by have := hb2.size; omega) _⟩
        · rw [if_neg hlt] at hst
          have hkz : ¬ (k : Int) < (s.size : Int) := by omega
          subst hst
          go_wp2
          exact bodyPost_ret (v := .tuple #[.slice A ps.length c, .int .i64 s.size, .int .i64 0]) (by simp [results, Tryz.results7, go_sem]) rfl ⟨_, ps, rfl, rfl, hrow, hbel⟩
  · rw [if_pos hk] at hE
    have hkb : ((k2 : Int) != 0) = true := by simpa using hk
    subst hE
    go_enter Tryz.func7, Tryz.ntmps7
    go_wp2_with fail
    refine (cK _).mono ?_
    rintro e w1 ⟨rfl, b1⟩
    go_wp2
    exact bodyPost_ret (v := .tuple #[.slice none 0 0, .int .i64 k1, .int .i64 k2]) (by simp [results, Tryz.results7, go_sem]) rfl ⟨_, [], rfl, rfl, ⟨World.ownsRow_nil _ _ _ _, fun p hp => by cases hp⟩, b1⟩
/-! ### Rows of tokens as they are read; what the laws of layer 6 compare them with. -/
theorem kblock_lt {w : World} {a : Addr} {v : Value} (hc : w.cell? a = some v) : a.block < w.heap.size := by
  rcases Nat.lt_or_ge a.block w.heap.size with h' | h'
  · exact h'
  · simp [World.cell?, Array.getElem?_eq_none h'] at hc
theorem AttrsAt.below {w w' : World} {p : Option Addr} {l : List AttrD} (h : AttrsAt w p l) (hb : Below w.heap.size w w') : AttrsAt w' p l := by
  intro i hi
  obtain ⟨a, ha, h0, h1, h2, h3⟩ := h i hi
  exact ⟨a, ha, (hb.cell (kblock_lt h0)).trans h0, (hb.cell (kblock_lt h1)).trans h1, (hb.cell (kblock_lt h2)).trans h2, (hb.cell (kblock_lt h3)).trans h3⟩
/-- A slice of tokens lies in memory. -/
def TokensAt (w : World) (p : Option Addr) (l : List TokD) : Prop := ∀ i (h : i < l.length), ∃ a q c, p = some a ∧
  (w.cell? (a.add (i * 6)) = some (.int .i64 l[i].kind) ∧ w.cell? ((a.add (i * 6)).add 1) = some (.string (ofBytes l[i].nm)) ∧ w.cell? ((a.add (i * 6)).add 2) = some (.slice q l[i].al.length c) ∧ w.cell? ((a.add (i * 6)).add 3) = some (.bool l[i].em) ∧ w.cell? ((a.add (i * 6)).add 4) = some (.string (ofBytes l[i].tx)) ∧ w.cell? ((a.add (i * 6)).add 5) = some (.int .i64 l[i].at')) ∧ AttrsAt w q l[i].al
theorem TokensAt.below {w w' : World} {p : Option Addr} {l : List TokD} (h : TokensAt w p l) (hb : Below w.heap.size w w') : TokensAt w' p l := by
  intro i hi
  obtain ⟨a, q, c, ha, ⟨h0, h1, h2, h3, h4, h5⟩, h6⟩ := h i hi
  exact ⟨a, q, c, ha, ⟨(hb.cell (kblock_lt h0)).trans h0, (hb.cell (kblock_lt h1)).trans h1, (hb.cell (kblock_lt h2)).trans h2, (hb.cell (kblock_lt h3)).trans h3, (hb.cell (kblock_lt h4)).trans h4, (hb.cell (kblock_lt h5)).trans h5⟩, h6.below hb⟩
theorem tokCells_len (ps : List (TokD × Value)) : (toksCells ps).length = ps.length * 6 := by
  induction ps with
  | nil => rfl
  | cons x r ih => rw [toksCells, List.flatMap_cons, List.length_append, List.length_cons]; rw [toksCells] at ih; rw [ih]; show 6 + _ = _; omega
theorem toksCells_at : ∀ (l : List (TokD × Value)) (i : Nat) (h : i < l.length) (k : Nat), k < 6 → (toksCells l)[i * 6 + k]? = (tokCells l[i])[k]?
  | [], i, h, _, _ => absurd h (Nat.not_lt_zero _)
  | x :: r, 0, _, k, hk => by
    show (tokCells x ++ toksCells r)[0 * 6 + k]? = (tokCells x)[k]?
    rw [List.getElem?_append_left (by show 0 * 6 + k < 6; omega)]
    simp
  | x :: r, i + 1, h, k, hk => by
    show (tokCells x ++ toksCells r)[(i + 1) * 6 + k]? = _
    rw [List.getElem?_append_right (by show 6 ≤ (i + 1) * 6 + k; omega)]
    show (toksCells r)[(i + 1) * 6 + k - 6]? = _
    rw [show (i + 1) * 6 + k - 6 = i * 6 + k by omega, toksCells_at r i (by simpa using h) k hk]
    rfl
/-- A row of tokens that is owned lies in memory. -/
theorem tokens_of_row {w : World} {B : Nat} {A : Option Addr} {n c : Nat} {ps : List (TokD × Value)} (h : TokRow w B (.slice A n c) ps) : n = ps.length ∧ TokensAt w A (ps.map Prod.fst) := by
  obtain ⟨h1, h2⟩ := h
  obtain ⟨A', c', he⟩ := own_form h1
  injection he with e1 e2 e3
  refine ⟨e2, fun i hi => ?_⟩
  rw [List.length_map] at hi
  have hc := fun g => h1.cells (g := g)
  rcases h1.2 with ⟨h0, h00⟩ | ⟨g, cap, cur, hv, _⟩
  · omega
  · injection hv with hA
    subst hA
    have hk : ∀ k v, k < 6 → (tokCells ps[i])[k]? = some v → w.cell? (((⟨g, 0, none⟩ : Addr).add (i * 6)).add k) = some v := by
      intro k v hk hv
      rw [addr_add2, ← addr_add]
      exact hc g rfl (i * 6 + k) v (by rw [toksCells_at ps i hi k hk]; exact hv)
    have hrow := h2 ps[i] (List.getElem_mem _)
    obtain ⟨A2, c2, ha⟩ := own_form hrow
    have g0 := hk 0 _ (by omega) rfl
    rw [addr_add2, Nat.add_zero, ← addr_add] at g0
    have g2 := hk 2 _ (by omega) rfl
    rw [ha] at hrow
    simp only [List.getElem_map]
    refine ⟨_, A2, c2, rfl, ⟨g0, hk 1 _ (by omega) rfl, ?_, hk 3 _ (by omega) rfl, hk 4 _ (by omega) rfl, hk 5 _ (by omega) rfl⟩, attrs_of_row hrow⟩
    rw [g2, ha]

set_option maxRecDepth 100000 in
set_option maxHeartbeats 8000000 in
/-- The laws' same, at two slices that hold the same tokens. -/
theorem lref_same (p q : Option Addr) (l : List TokD) (cl cm : Nat) (w : World) (hp : TokensAt w p l) (hq : TokensAt w q l) (hl : l.length ≤ 1000000) (hal : ∀ t ∈ l, t.al.length ≤ 1000000) :
    Calls Tryz.prog 8 #[.slice p l.length cl, .slice q l.length cm] w fun e w' => e = .returned (.bool true) ∧ Below w.heap.size w w' := by
  go_enter Tryz.func8, Tryz.ntmps8
  go_wp2
  go_loopw [15] (fun r wr => ∃ i : Nat, i ≤ l.length ∧ r = .int .i64 i ∧ Below w.heap.size w wr) (fun r _ => l.length - (intOf r).toNat)
  case atStart => exact ⟨0, Nat.zero_le _, rfl, Below.refl _ _⟩
  case round =>
    obtain ⟨i, hi, rfl, hbel⟩ := hrel
    have hz := hbel.size
    by_cases hlt : i < l.length
    · have hiz : (i : Int) < (l.length : Int) := by omega
      obtain ⟨a, ax, ac, rfl, ⟨a0, a1, a2, a3, a4, a5⟩, hax⟩ := (hp.below hbel) i hlt
      obtain ⟨b, bx, bc, rfl, ⟨b0, b1, b2, b3, b4, b5⟩, hbx⟩ := (hq.below hbel) i hlt
      have hin := hal l[i] (List.getElem_mem _)
      generalize l[i] = t at *
      obtain ⟨kd, nm, al, em, tx, at'⟩ := t
      simp only at a0 a1 a2 a3 a4 a5 b0 b1 b2 b3 b4 b5 hax hbx hin
      obtain ⟨ca, hca⟩ : ∃ c, a.add (i * 6) = c := ⟨_, rfl⟩
      obtain ⟨cb, hcb⟩ : ∃ c, b.add (i * 6) = c := ⟨_, rfl⟩
      rw [hca] at a0 a1 a2 a3 a4 a5
      rw [hcb] at b0 b1 b2 b3 b4 b5
      simp only [Addr.add, Nat.reduceEqDiff, ↓reduceIte] at a1 a2 a3 a4 a5 b1 b2 b3 b4 b5
      have cS : ∀ wx, Below wr.heap.size wr wx → _ := fun wx hb => tref_SameAttrs ax bx al al ac bc wx (hax.below hb) (hbx.below hb) hin
      rw [decide_eq_true (show al = al from rfl)] at cS
      have wq : ∀ (o : Obj) (c : Addr) (v : Value), wr.cell? c = some v → (wr.alloc o).cell? c = some v := fun o c v h => (((Below.refl wr.heap.size wr).alloc (Nat.le_refl _) o).cell (kblock_lt h)).trans h
      have w0 : ∀ o, _ := fun o => wq o _ _ b0
      have w1 : ∀ o, _ := fun o => wq o _ _ b1
      have w2 : ∀ o, _ := fun o => wq o _ _ b2
      have w3 : ∀ o, _ := fun o => wq o _ _ b3
      have w4 : ∀ o, _ := fun o => wq o _ _ b4
      have w5 : ∀ o, _ := fun o => wq o _ _ b5
      clear hax hbx hp hq hal hin wq
      have hb3 : ∀ (o1 o2 : Obj), Below wr.heap.size wr ((wr.alloc o1).alloc o2) := fun o1 o2 => ((Below.refl _ _).alloc (Nat.le_refl _) _).alloc (by simp) _
      go_wp2_with fail
      refine (cS _ (hb3 _ _)).mono ?_
      rintro e w6 ⟨rfl, d2⟩
      have hb4 := hbel.trans (((hb3 _ _).trans (d2.mono (by simp; omega))).mono hz)
      clear hb3 d2 cS
      go_wp2
      go_roundw
      case rel => exact ⟨i + 1, by omega, by go_num, hb4⟩
      case measure => simp [intOf]; omega
    · obtain rfl : i = l.length := by omega
      go_wp2
      go_ret
      exact ⟨rfl, hbel⟩
/-! ### Plain facts of layer 6: the examples of the chapter. -/
theorem ex_1 : toksP ⟨#[60, 97, 32, 98, 61, 39, 49, 39, 47, 62, 120]⟩ = ([⟨1, [97], [attrOf [98] [49] 3], true, [], 0⟩, tokT [120] 10], 11, 0) := by kernel_rfl
theorem ex_2 : toksP ⟨#[60, 97, 32, 98, 61, 49, 62]⟩ = ([], 5, 7) := by kernel_rfl
theorem ex_3 : toksP ⟨#[60, 97]⟩ = ([], 0, 8) := by kernel_rfl
theorem ex_4 : toksP ⟨#[60, 33, 68, 79, 67, 84, 89, 80, 69, 32, 120, 62]⟩ = ([], 0, 11) := by kernel_rfl
theorem ex_5 : isQB ⟨#[120, 58, 121]⟩ = true := by kernel_rfl
end Go.Proofs.YtpphpnkijokffaaGreatDoor
