/- Packed from the texts NsG. -/
import Derived.Test.YtoehcholbcchcaaDoorUNsB
import Derived.Test.YtoehcholbcchcaaDoorUkD
import Derived.Laws.MakeOwn
import Derived.Deep.AppendSrc
section
namespace Go.Proofs.YtoehcholbcchcaaDoor
open Go.RowKit
def set7 (cs : Array Value) (o : Nat) (v0 v1 v2 v3 v4 v5 v6 : Value) : Array Value := ((((((cs.setIfInBounds o v0).setIfInBounds (o + 1) v1).setIfInBounds (o + 2) v2).setIfInBounds (o + 3) v3).setIfInBounds (o + 4) v4).setIfInBounds (o + 5) v5).setIfInBounds (o + 6) v6
theorem set7_size (cs : Array Value) (o : Nat) (v0 v1 v2 v3 v4 v5 v6 : Value) : (set7 cs o v0 v1 v2 v3 v4 v5 v6).size = cs.size := by simp [set7]
theorem set7_get (cs : Array Value) (o : Nat) (v0 v1 v2 v3 v4 v5 v6 : Value) (j : Nat) (h : j < o ∨ o + 7 ≤ j) : (set7 cs o v0 v1 v2 v3 v4 v5 v6)[j]? = cs[j]? := by
  unfold set7
  simp only [Array.getElem?_setIfInBounds]
  rw [if_neg (by omega), if_neg (by omega), if_neg (by omega), if_neg (by omega), if_neg (by omega), if_neg (by omega), if_neg (by omega)]
theorem set7_at (cs : Array Value) (o : Nat) (v0 v1 v2 v3 v4 v5 v6 : Value) (h : o + 7 ≤ cs.size) : ∀ j, j < 7 → (set7 cs o v0 v1 v2 v3 v4 v5 v6)[o + j]? = [v0, v1, v2, v3, v4, v5, v6][j]? := by
  intro j hj
  unfold set7
  simp only [Array.getElem?_setIfInBounds, Array.size_setIfInBounds]
  have h7 : j = 0 ∨ j = 1 ∨ j = 2 ∨ j = 3 ∨ j = 4 ∨ j = 5 ∨ j = 6 := by omega
  rcases h7 with rfl | rfl | rfl | rfl | rfl | rfl | rfl
  all_goals simp
  all_goals omega
theorem take_seven (cs : Array Value) (o : Nat) (L : List Value) (hl : L.length = 7) (hs : o + 7 ≤ cs.size) (h : ∀ j, j < 7 → cs[o + j]? = L[j]?) : cs.toList.take (o + 7) = cs.toList.take o ++ L := by
  apply List.ext_getElem?
  intro j
  by_cases hj : j < o
  · rw [List.getElem?_take_of_lt (by omega), List.getElem?_append_left (by simp; omega), List.getElem?_take_of_lt hj]
  · by_cases hj7 : j < o + 7
    · rw [List.getElem?_take_of_lt hj7, List.getElem?_append_right (by simp; omega)]
      have := h (j - o) (by omega)
      rw [show o + (j - o) = j by omega] at this
      simp only [List.length_take, Array.length_toList, Array.getElem?_toList]
      rw [this, Nat.min_eq_left (by omega)]
    · rw [List.getElem?_eq_none (by simp; omega), List.getElem?_eq_none (by simp [hl]; omega)]
theorem set7_take (cs : Array Value) (o : Nat) (v0 v1 v2 v3 v4 v5 v6 : Value) (h : o + 7 ≤ cs.size) : (set7 cs o v0 v1 v2 v3 v4 v5 v6).toList.take (o + 7) = cs.toList.take o ++ [v0, v1, v2, v3, v4, v5, v6] := by
  have h1 : (set7 cs o v0 v1 v2 v3 v4 v5 v6).toList.take o = cs.toList.take o := by
    apply List.ext_getElem?
    intro j
    by_cases hj : j < o
    · rw [List.getElem?_take_of_lt hj, List.getElem?_take_of_lt hj, Array.getElem?_toList, Array.getElem?_toList, set7_get _ _ _ _ _ _ _ _ _ _ (.inl hj)]
    · rw [List.getElem?_eq_none (by simp; omega), List.getElem?_eq_none (by simp; omega)]
  have h2 := set7_at cs o v0 v1 v2 v3 v4 v5 v6 h
  have h3 : o + 7 ≤ (set7 cs o v0 v1 v2 v3 v4 v5 v6).size := by rw [set7_size]; exact h
  rw [← h1]
  generalize set7 cs o v0 v1 v2 v3 v4 v5 v6 = ds at *
  exact take_seven ds o [v0, v1, v2, v3, v4, v5, v6] rfl h3 h2
theorem blk_set7 {w : World} {b : Nat} {cs : Array Value} {T : TypeId} (h : Blk w b cs T) (o : Nat) (v0 v1 v2 v3 v4 v5 v6 : Value) : Blk (((((((w.setCell ⟨b, o, none⟩ v0).setCell ⟨b, o + 1, none⟩ v1).setCell ⟨b, o + 2, none⟩ v2).setCell ⟨b, o + 3, none⟩ v3).setCell ⟨b, o + 4, none⟩ v4).setCell ⟨b, o + 5, none⟩ v5).setCell ⟨b, o + 6, none⟩ v6) b (set7 cs o v0 v1 v2 v3 v4 v5 v6) T :=
  ((((((h.set o v0).set (o + 1) v1).set (o + 2) v2).set (o + 3) v3).set (o + 4) v4).set (o + 5) v5).set (o + 6) v6
theorem part_set7 {X : Nat → Prop} {a w : World} (h : Part X a w) {b : Nat} (hb : X b ∨ a.heap.size ≤ b) (o : Nat) (v0 v1 v2 v3 v4 v5 v6 : Value) : Part X a (((((((w.setCell ⟨b, o, none⟩ v0).setCell ⟨b, o + 1, none⟩ v1).setCell ⟨b, o + 2, none⟩ v2).setCell ⟨b, o + 3, none⟩ v3).setCell ⟨b, o + 4, none⟩ v4).setCell ⟨b, o + 5, none⟩ v5).setCell ⟨b, o + 6, none⟩ v6) :=
  ((((((h.set (q := ⟨b, o, none⟩) hb v0).set (q := ⟨b, o + 1, none⟩) hb v1).set (q := ⟨b, o + 2, none⟩) hb v2).set (q := ⟨b, o + 3, none⟩) hb v3).set (q := ⟨b, o + 4, none⟩) hb v4).set (q := ⟨b, o + 5, none⟩) hb v5).set (q := ⟨b, o + 6, none⟩) hb v6
theorem wpList_append_nil {P : Program} (w : World) {ops : Array Oper} {rest : List Oper} {o : Oper} {a : Act} {Q : Exit → Act → World → Prop} (hgd : o.guard = none) (sl x : Operand) (t : TypeId)
    (ho : o.op = .call { callee := .builtin .append, args := #[sl, x], argTypes := #[t, t] }) (e : TypeId) (i : TypeInfo) (ht : P.underlying t = some (.slice e)) (hi : P.info? e = some i) (c : Nat)
    (hs : a.eval sl = .slice none 0 0) (hx : a.eval x = .slice none 0 c) (h : wpList P ops Q rest (a.put o.dst (.slice none 0 0)) w) : wpList P ops Q (o :: rest) a w := by
  refine wpList_plain hgd fun K hK => ?_
  have hS := Src.ofNil (P := P) (size := i.size) w ht c
  have hc := hS.cells
  have hr : (Builtin.append_ #[t, t] o.type #[.slice none 0 0, .slice none 0 c]).run P w = .ok (.slice none 0 0) w := by
    simp [Builtin.append_, run_underlying ht, sizeOf, typeInfo, hi, hS.len, hc]
  unfold Oper.wp execOp
  simp only [ho, resolve, invoke, builtin, Sem.run_bind, Sem.run_pure, Result.andThen_ok, List.map_toArray, List.map_cons, List.map_nil, hs, hx, hr]
  exact hK _ _ h
theorem attrs_news {w : World} {ad : Addr} {al : List AttrD} (h : AttrsAt w (some ad) al) : ∀ j u, (attrsCells al)[j]? = some u → w.cell? (ad.add j) = some u := by
  intro j u hj
  have hlt : j < al.length * 4 := by rw [← attrsCells_len]; exact (List.getElem?_eq_some_iff.1 hj).1
  have hq : j / 4 < al.length := by omega
  obtain ⟨a, ha, h0, h1, h2, h3⟩ := h (j / 4) hq
  cases ha
  have hk := attrsCells_at al (j / 4) hq (j % 4) (Nat.mod_lt _ (by decide))
  rw [show j / 4 * 4 + j % 4 = j by omega, hj] at hk
  rw [Addr.add_add] at h1 h2 h3
  have hm : j % 4 = 0 ∨ j % 4 = 1 ∨ j % 4 = 2 ∨ j % 4 = 3 := by omega
  rcases hm with hm | hm | hm | hm
  all_goals rw [hm] at hk
  · rw [show j / 4 * 4 = j by omega] at h0
    cases hk
    exact h0
  · rw [show j / 4 * 4 + 1 = j by omega] at h1
    cases hk
    exact h1
  · rw [show j / 4 * 4 + 2 = j by omega] at h2
    cases hk
    exact h2
  · rw [show j / 4 * 4 + 3 = j by omega] at h3
    cases hk
    exact h3
theorem attrs_one (al : List AttrD) : ∀ u ∈ attrsCells al, u.oneCell' = true := by
  intro u hu
  obtain ⟨x, _, hx⟩ := List.mem_flatMap.1 hu
  exact attr_one x u hx
theorem wpList_copy_attrs (w : World) {ops : Array Oper} {rest : List Oper} {o : Oper} {a : Act} {Q : Exit → Act → World → Prop} (hgd : o.guard = none) (sl x : Operand)
    (ho : o.op = .call { callee := .builtin .append, args := #[sl, x], argTypes := #[26, 26] }) (p : Option Addr) (c : Nat) (al : List AttrD) (hA : AttrsAt w p al) (hl : al.length ≤ 10000000)
    (hs : a.eval sl = .slice none 0 0) (hx : a.eval x = .slice p al.length c) (h : ∀ pa ca w', w'.ownsRow w.heap.size 43 4 (.slice pa al.length ca) al.length (attrsCells al) → Below w.heap.size w w' → wpList Tryd.prog ops Q rest (a.put o.dst (.slice pa al.length ca)) w') : wpList Tryd.prog ops Q (o :: rest) a w := by
  obtain ⟨i0, hi0, hi1, hi3, hi4⟩ := info_parts kinfo_attr
  cases p with
  | none =>
    have h0 : al = [] := by
      cases al with
      | nil => rfl
      | cons y r => obtain ⟨b, hb, _⟩ := hA 0 (by simp); cases hb
    subst h0
    exact wpList_append_nil w hgd sl x _ ho 43 i0 Tryd.underlying26 hi0 c hs hx (h none 0 w (World.ownsRow_nil _ _ _ _) (Below.refl _ _))
  | some ad =>
    refine wpList_append_own w hgd sl x _ ho w.heap.size 43 i0 (.agg #[.string ⟨#[]⟩, .string ⟨#[]⟩, .string ⟨#[]⟩, .int .i64 0]) 4 56 Tryd.underlying26 hi0 hi1 hi3 hi4 rfl (by decide) (.slice none 0 0) 0 [] hs (World.ownsRow_nil _ _ _ _) ad al.length c (attrsCells al) hx (attrsCells_len al) (attrs_news hA) (attrs_one al) (by unfold maxLen; omega) (by omega) (Nat.le_refl _) ?_
    intro v' w' hown hgr _
    rw [Nat.zero_add, List.nil_append] at hown
    obtain ⟨pa, ca, rfl⟩ := own_form hown
    exact h pa ca w' hown ((Below.refl _ _).grown hgr (Nat.le_refl _) (fun k hk => by cases hk))
def CopyAt (n : NodeD) : Prop := ∀ (v : Value) (w : World), NodeIs w n v → Calls Tryd.prog 26 #[v] w fun e w' => ∃ v', e = .returned v' ∧ InIs w' w.heap.size w'.heap.size n v' ∧ Below w.heap.size w w'
theorem madeNode (n : Nat) : (madeCells nodeZs (n * 7)).size = n * 7 := size_madeCells _ _
theorem part_out {X : Nat → Prop} {a w : World} (h : Part X a w) {b : Nat} (hb : X b ∨ a.heap.size ≤ b) (u0 u1 u2 u3 u4 u5 u6 : Value) : Part X a (((((((w.setCell ⟨b, 0, none⟩ u0).setCell ⟨b, 1, none⟩ u1).setCell ⟨b, 2, none⟩ u2).setCell ⟨b, 3, none⟩ u3).setCell ⟨b, 4, none⟩ u4).setCell ⟨b, 5, none⟩ u5).setCell ⟨b, 6, none⟩ u6) := part_set7 h hb 0 u0 u1 u2 u3 u4 u5 u6
structure KC (W3 : World) (mb : Nat) (kids : List NodeD) (wr : World) (i : Nat) (cs : Array Value) : Prop where
  blk : Blk wr mb cs 29
  len : cs.size = kids.length * 7
  done : InKids wr (mb + 1) wr.heap.size (kids.take i) (cs.toList.take (i * 7))
  part : Part (fun k => k = mb) W3 wr
set_option maxRecDepth 100000 in
set_option maxHeartbeats 8000000 in
theorem ns_copyOf : ∀ (f : Nat) (n : NodeD), n.cnt ≤ f → n.cnt ≤ 1000000 → n.acnt ≤ 10000000 → CopyAt n
  | 0, n, hf, _, _ => absurd hf (by have := cnt_eq n; omega)
  | f + 1, n, hf, hc, hac => by
    intro v w hn
    have hae := acnt_eq n
    have hS : ∀ k ∈ n.kids, CopyAt k := fun k hk => ns_copyOf f k (by have := cnt_kid n k hk; omega) (by have := cnt_kid n k hk; omega) (by have := acnts_mem _ k hk; omega)
    have hkl : n.kids.length ≤ 1000000 := by have := cnts_length n.kids; have := cnt_eq n; omega
    have hal : n.al.length ≤ 10000000 := by omega
    obtain ⟨pa, ca, pk, ck, rfl, hA, hK⟩ := (node_is w n v).1 hn
    obtain ⟨i0, hi0, hi1, hi3, hi4⟩ := info_parts kinfo_node
    have hmk : ∀ wx, (Instr.makeSlice 27 (.int .i64 (n.kids.length : Int)) (.int .i64 (n.kids.length : Int))).run Tryd.prog wx = .ok (.slice (some ⟨wx.heap.size, 0, none⟩) n.kids.length n.kids.length) (wx.alloc (.cells (madeCells nodeZs (n.kids.length * 7)) 29)) := by
      intro wx
      have hr := run_make (P := Tryd.prog) wx 27 29 i0 (.agg nodeZs) Tryd.underlying27 hi0 hi1 .i64 .i64 n.kids.length n.kids.length (by omega) (Int.le_refl _) (by rw [hi4]; omega) (by omega)
      simp only [Int.toNat_natCast, hi3] at hr
      exact hr
    obtain ⟨W1, hW1⟩ : ∃ W1, W1 = (w.alloc (.cells #[.int .i64 n.kind, .string n.sp, .string n.nm, .slice pa n.al.length ca, .slice pk n.kids.length ck, .string n.tx, .int .i64 n.at'] 29)).alloc (.cells #[.int .i64 0, .string ⟨#[]⟩, .string ⟨#[]⟩, .slice none 0 0, .slice none 0 0, .string ⟨#[]⟩, .int .i64 0] 29) := ⟨_, rfl⟩
    have PH : Blk W1 w.heap.size #[.int .i64 n.kind, .string n.sp, .string n.nm, .slice pa n.al.length ca, .slice pk n.kids.length ck, .string n.tx, .int .i64 n.at'] 29 := by
      rw [hW1]
      exact (Blk.new w _ _).more ((Below.refl _ _).alloc (Nat.le_refl _) _)
    have PR : Blk W1 (w.heap.size + 1) nodeZs 29 := by
      have := Blk.new (w.alloc (.cells #[.int .i64 n.kind, .string n.sp, .string n.nm, .slice pa n.al.length ca, .slice pk n.kids.length ck, .string n.tx, .int .i64 n.at'] 29)) nodeZs 29
      rw [hW1]
      simpa [nodeZs] using this
    have B1 : Below w.heap.size w W1 := by rw [hW1]; exact ((Below.refl _ _).alloc (Nat.le_refl _) _).alloc (by simp) _
    have hz1 : W1.heap.size = w.heap.size + 2 := by rw [hW1]; simp
    have hp3 : W1.cell? ⟨w.heap.size, 3, none⟩ = some (.slice pa n.al.length ca) := PH.cell 3
    have HPH := Lib.hid PH
    have HPR := Lib.hid PR
    have HB1 := Lib.hid B1
    have HS := Lib.hid hS
    have HK := Lib.hid hK
    have HA := Lib.hid (hA.below B1)
    clear hn hA hK hS PH PR B1 hae hac hc hf
    go_enter Tryd.func26, Tryd.ntmps26
    go_upto_region 1 with fail
    simp only [← hW1]
    clear hW1
    go_wp2_with (at_builtin; refine wpList_copy_attrs _ rfl _ _ rfl pa ca n.al HA.out hal rfl rfl ?_)
    intro pa2 ca2 w2 hva2 b2
    rw [← hz1] at hva2 b2
    have PH2 := HPH.out.more b2
    have q3 : w2.cell? ⟨w.heap.size, 3, none⟩ = some (.slice pa n.al.length ca) := PH2.cell 3
    have q4 : w2.cell? ⟨w.heap.size, 4, none⟩ = some (.slice pk n.kids.length ck) := PH2.cell 4
    have g3 := PH2.fr 3
    have hz2 := b2.size
    have hzs : (w2.setCell ⟨w.heap.size, 3, none⟩ (.slice pa2 n.al.length ca2)).heap.size = w2.heap.size := by simp [World.setCell]
    obtain ⟨W3, hW3⟩ : ∃ W3, W3 = (w2.setCell ⟨w.heap.size, 3, none⟩ (.slice pa2 n.al.length ca2)).alloc (.cells (madeCells nodeZs (n.kids.length * 7)) 29) := ⟨_, rfl⟩
    have hz3 : W3.heap.size = w2.heap.size + 1 := by rw [hW3]; simp [World.setCell]
    have PM : Blk W3 w2.heap.size (madeCells nodeZs (n.kids.length * 7)) 29 := by
      have := Blk.new (w2.setCell ⟨w.heap.size, 3, none⟩ (.slice pa2 n.al.length ca2)) (madeCells nodeZs (n.kids.length * 7)) 29
      rw [hzs] at this
      rw [hW3]
      exact this
    have P3 : Part (fun k => k = w.heap.size) w2 W3 := by rw [hW3]; exact ((Part.refl (fun k => k = w.heap.size) w2).set (q := ⟨w.heap.size, 3, none⟩) (.inl rfl) _).alloc _
    have PH3 : Blk W3 w.heap.size #[.int .i64 n.kind, .string n.sp, .string n.nm, .slice pa2 n.al.length ca2, .slice pk n.kids.length ck, .string n.tx, .int .i64 n.at'] 29 := by rw [hW3]; exact (PH2.set 3 _).more ((Below.refl _ _).alloc (Nat.le_refl _) _)
    have PR3 : Blk W3 (w.heap.size + 1) nodeZs 29 := P3.blk (HPR.out.more b2) (by omega)
    have VA3 : W3.ownsRow W1.heap.size 43 4 (.slice pa2 n.al.length ca2) n.al.length (attrsCells n.al) := rowSame hva2 (fun g hg => P3.block g (row_kind hva2 g hg).2.1 (by have := (row_kind hva2 g hg).1; omega))
    have VB3 : ∀ g, (Value.slice pa2 n.al.length ca2).ownBlock = some g → g < w2.heap.size := fun g hg => (row_kind hva2 g hg).2.1
    have B3 : Below w.heap.size w W3 := P3.below (HB1.out.trans (b2.mono (by omega))) (fun k hk => by omega) (by omega)
    have hKC : KC W3 w2.heap.size n.kids W3 0 (madeCells nodeZs (n.kids.length * 7)) := ⟨PM, madeNode _, by rw [List.take_zero, Nat.zero_mul, List.take_zero, InKids]; exact ⟨rfl, by omega⟩, Part.refl _ _⟩
    have HKC := Lib.hid hKC
    have HPH3 := Lib.hid PH3
    have HPR3 := Lib.hid PR3
    have HVA3 := Lib.hid VA3
    have HVB3 := Lib.hid VB3
    have HB3 := Lib.hid B3
    have HK3 := Lib.hid (HK.out.below B3)
    have h34 : W3.cell? ⟨w.heap.size, 4, none⟩ = some (.slice pk n.kids.length ck) := PH3.cell 4
    have HW3 := Lib.hid hW3
    clear hKC PH3 PR3 VA3 VB3 B3 PM P3 PH2 hva2 b2
    rw [hW3] at h34
    clear hW3
    go_wp2
    go_loopw [17] (fun q wr => ∃ (i : Nat) (cs : Array Value), i ≤ n.kids.length ∧ q = .int .i64 i ∧ KC W3 w2.heap.size n.kids wr i cs) (fun q _ => n.kids.length - (intOf q).toNat)
    case atStart => exact ⟨0, _, Nat.zero_le _, rfl, by rw [← HW3.out]; exact HKC.out⟩
    case round =>
      clear h34 q3 q4 g3
      obtain ⟨i, cs, hi, rfl, hD⟩ := hrel
      have hz := hD.part.size
      have lM := hD.blk.lt
      have hbw : Below w.heap.size w wr := hD.part.below HB3.out (fun k hk => by omega) (by omega)
      by_cases hlt : i < n.kids.length
      · have hiz : (i : Int) < (n.kids.length : Int) := by omega
        obtain ⟨a, qa, da, qk, dk, rfl, ⟨a0, a1, a2, a3, a4, a5, a6⟩, hk⟩ := (HK.out.below hbw).cells i hlt
        have hc1 := HS.out n.kids[i] (List.getElem_mem _)
        have htk : n.kids.take (i + 1) = n.kids.take i ++ [n.kids[i]] := List.take_succ_eq_append_getElem hlt
        obtain ⟨k, hkk⟩ : ∃ k, n.kids[i] = k := ⟨_, rfl⟩
        rw [hkk] at hk hc1 htk a0 a1 a2 a3 a4 a5 a6
        have HTK := Lib.hid htk
        obtain ⟨cc, hcc⟩ : ∃ c, a.add (i * 7) = c := ⟨_, rfl⟩
        rw [hcc] at a0 a1 a2 a3 a4 a5 a6
        simp only [Addr.add, Nat.reduceEqDiff, ↓reduceIte] at a1 a2 a3 a4 a5 a6
        have bA : Below wr.heap.size wr (wr.alloc (.cells #[.int .i64 k.kind, .string k.sp, .string k.nm, .slice qa k.al.length da, .slice qk k.kids.length dk, .string k.tx, .int .i64 k.at'] 29)) := (Below.refl _ _).alloc (Nat.le_refl _) _
        have c1 := hc1 _ _ (hk.below bA)
        have hzA : (wr.alloc (.cells #[.int .i64 k.kind, .string k.sp, .string k.nm, .slice qa k.al.length da, .slice qk k.kids.length dk, .string k.tx, .int .i64 k.at'] 29)).heap.size = wr.heap.size + 1 := by simp
        have HZA := Lib.hid hzA
        have HBA := Lib.hid bA
        have HD := Lib.hid hD
        have HBW := Lib.hid hbw
        clear htk hkk hk hc1 hbw bA hD hzA
        go_wp2_with fail
        refine c1.mono ?_
        rintro e w4 ⟨v4, rfl, hI4, b4⟩
        obtain ⟨pa4, ca4, pk4, ck4, rfl⟩ := in_val hI4
        have b5 := HBA.out.trans (b4.mono HBA.out.size)
        have hz5 := b5.size
        have hz4 := b4.size
        rw [HZA.out] at hz4 hI4
        have PM4 := HD.out.blk.more b5
        have hcs := HD.out.len
        have hi7 : i * 7 + 7 ≤ cs.size := by rw [hcs]; omega
        have e0 : w4.cell? ⟨w2.heap.size, i * 7, none⟩ = some (cs[i * 7]'(by omega)) := by rw [PM4.cell]; exact Array.getElem?_eq_getElem _
        have e1 : w4.cell? ⟨w2.heap.size, i * 7 + 1, none⟩ = some (cs[i * 7 + 1]'(by omega)) := by rw [PM4.cell]; exact Array.getElem?_eq_getElem _
        have e2 : w4.cell? ⟨w2.heap.size, i * 7 + 2, none⟩ = some (cs[i * 7 + 2]'(by omega)) := by rw [PM4.cell]; exact Array.getElem?_eq_getElem _
        have e3 : w4.cell? ⟨w2.heap.size, i * 7 + 3, none⟩ = some (cs[i * 7 + 3]'(by omega)) := by rw [PM4.cell]; exact Array.getElem?_eq_getElem _
        have e4 : w4.cell? ⟨w2.heap.size, i * 7 + 4, none⟩ = some (cs[i * 7 + 4]'(by omega)) := by rw [PM4.cell]; exact Array.getElem?_eq_getElem _
        have e5 : w4.cell? ⟨w2.heap.size, i * 7 + 5, none⟩ = some (cs[i * 7 + 5]'(by omega)) := by rw [PM4.cell]; exact Array.getElem?_eq_getElem _
        have e6 : w4.cell? ⟨w2.heap.size, i * 7 + 6, none⟩ = some (cs[i * 7 + 6]'(by omega)) := by rw [PM4.cell]; exact Array.getElem?_eq_getElem _
        have f0 := PM4.fr (i * 7)
        have f1 := PM4.fr (i * 7 + 1)
        have f2 := PM4.fr (i * 7 + 2)
        have f3 := PM4.fr (i * 7 + 3)
        have f4 := PM4.fr (i * 7 + 4)
        have f5 := PM4.fr (i * 7 + 5)
        have f6 := PM4.fr (i * 7 + 6)
        have hnx : KC W3 w2.heap.size n.kids (((((((w4.setCell ⟨w2.heap.size, i * 7, none⟩ (.int .i64 k.kind)).setCell ⟨w2.heap.size, i * 7 + 1, none⟩ (.string k.sp)).setCell ⟨w2.heap.size, i * 7 + 2, none⟩ (.string k.nm)).setCell ⟨w2.heap.size, i * 7 + 3, none⟩ (.slice pa4 k.al.length ca4)).setCell ⟨w2.heap.size, i * 7 + 4, none⟩ (.slice pk4 k.kids.length ck4)).setCell ⟨w2.heap.size, i * 7 + 5, none⟩ (.string k.tx)).setCell ⟨w2.heap.size, i * 7 + 6, none⟩ (.int .i64 k.at')) (i + 1) (set7 cs (i * 7) (.int .i64 k.kind) (.string k.sp) (.string k.nm) (.slice pa4 k.al.length ca4) (.slice pk4 k.kids.length ck4) (.string k.tx) (.int .i64 k.at')) := by
          have P7 := part_set7 (Part.refl (fun b => b = w2.heap.size) w4) (b := w2.heap.size) (.inl rfl) (i * 7) (.int .i64 k.kind) (.string k.sp) (.string k.nm) (.slice pa4 k.al.length ca4) (.slice pk4 k.kids.length ck4) (.string k.tx) (.int .i64 k.at')
          have hz7 : (((((((w4.setCell ⟨w2.heap.size, i * 7, none⟩ (.int .i64 k.kind)).setCell ⟨w2.heap.size, i * 7 + 1, none⟩ (.string k.sp)).setCell ⟨w2.heap.size, i * 7 + 2, none⟩ (.string k.nm)).setCell ⟨w2.heap.size, i * 7 + 3, none⟩ (.slice pa4 k.al.length ca4)).setCell ⟨w2.heap.size, i * 7 + 4, none⟩ (.slice pk4 k.kids.length ck4)).setCell ⟨w2.heap.size, i * 7 + 5, none⟩ (.string k.tx)).setCell ⟨w2.heap.size, i * 7 + 6, none⟩ (.int .i64 k.at')).heap.size = w4.heap.size := by simp [World.setCell]
          refine ⟨blk_set7 PM4 _ _ _ _ _ _ _ _, by rw [set7_size]; exact hcs, ?_, (HD.out.part.more b5).trans P7 (fun _ _ x => x)⟩
          rw [hz7, HTK.out, show (i + 1) * 7 = i * 7 + 7 by omega, set7_take cs _ _ _ _ _ _ _ _ hi7]
          refine InKids.snoc (hi := wr.heap.size) ?_ _ _ _ (InKids.same (fun b h1 h2 => ?_) _ _ HD.out.done)
          · exact InIs.wide (hi := wr.heap.size + 1) (by omega) (InIs.same (fun b h1 h2 => P7.block b h2 (by omega)) _ _ hI4)
          · exact (P7.block b (by omega) (by omega)).trans (b5.block b h2)
        have HNX := Lib.hid hnx
        clear hnx hI4 b4 b5 PM4
        go_wp2
        go_roundw
        case rel => exact ⟨i + 1, _, by omega, by go_num, HNX.out⟩
        case measure => simp [intOf]; omega
      · obtain rfl : i = n.kids.length := by omega
        have PHr : Blk wr w.heap.size #[.int .i64 n.kind, .string n.sp, .string n.nm, .slice pa2 n.al.length ca2, .slice pk n.kids.length ck, .string n.tx, .int .i64 n.at'] 29 := hD.part.blk HPH3.out (by omega)
        have PRr : Blk wr (w.heap.size + 1) nodeZs 29 := hD.part.blk HPR3.out (by omega)
        have d0 : wr.cell? ⟨w.heap.size, 0, none⟩ = some (.int .i64 n.kind) := PHr.cell 0
        have d1 : wr.cell? ⟨w.heap.size, 1, none⟩ = some (.string n.sp) := PHr.cell 1
        have d2 : wr.cell? ⟨w.heap.size, 2, none⟩ = some (.string n.nm) := PHr.cell 2
        have d3 : wr.cell? ⟨w.heap.size, 3, none⟩ = some (.slice pa2 n.al.length ca2) := PHr.cell 3
        have d4 : wr.cell? ⟨w.heap.size, 4, none⟩ = some (.slice pk n.kids.length ck) := PHr.cell 4
        have d5 : wr.cell? ⟨w.heap.size, 5, none⟩ = some (.string n.tx) := PHr.cell 5
        have d6 : wr.cell? ⟨w.heap.size, 6, none⟩ = some (.int .i64 n.at') := PHr.cell 6
        have f4 := PHr.fr 4
        obtain ⟨⟨r0, r1, r2, r3, r4, r5, r6⟩, k0, k1, k2, k3, k4, k5, k6⟩ := PRr.seven
        have hfin : ∀ W : World, Part (fun b => b = w.heap.size ∨ b = w.heap.size + 1) wr W → InIs W w.heap.size W.heap.size n (.agg #[.int .i64 n.kind, .string n.sp, .string n.nm, .slice pa2 n.al.length ca2, .slice (some ⟨w2.heap.size, 0, none⟩) n.kids.length n.kids.length, .string n.tx, .int .i64 n.at']) ∧ Below w.heap.size w W := by
          intro W hW
          have hzW := hW.size
          refine ⟨?_, hW.below hbw (fun b hb => by omega) (by omega)⟩
          rw [in_eq]
          refine ⟨_, w2.heap.size, cs, w2.heap.size + 1, rfl, by omega, by omega, ?_, fun g hg => by have := HVB3.out g hg; omega, by omega, by omega, hW.blk hD.blk (by omega), hD.len, by unfold maxLen; omega, ?_⟩
          · refine Go.Joins.ownsRow_le (rowSame HVA3.out (fun g hg => ?_)) (by omega)
            have h1 := (row_kind HVA3.out g hg).1
            have h2 := HVB3.out g hg
            exact (hW.block g (by omega) (by omega)).trans (hD.part.block g (by omega) (by omega))
          · have hd := hD.done
            rw [List.take_length, List.take_of_length_le (by simp [hD.len])] at hd
            have hw := InKids.same (w' := W) (fun b h1 h2 => hW.block b h2 (by omega)) _ _ hd
            exact InKids.wideR (by omega) _ _ _ hw
        have HF := Lib.hid hfin
        clear hfin hD hbw PHr PRr
        go_wp2
        exact bodyPost_ret (v := .agg #[.int .i64 n.kind, .string n.sp, .string n.nm, .slice pa2 n.al.length ca2, .slice (some ⟨w2.heap.size, 0, none⟩) n.kids.length n.kids.length, .string n.tx, .int .i64 n.at']) (by simp [results, Tryd.results26, go_sem, cell_set_same, r0, r1, r2, r3, r4, r5, r6]) rfl ⟨_, rfl, HF.out _ (part_out ((Part.refl (fun b => b = w.heap.size ∨ b = w.heap.size + 1) wr).set (q := ⟨w.heap.size, 4, none⟩) (.inl (.inl rfl)) _) (b := w.heap.size + 1) (.inl (.inr rfl)) _ _ _ _ _ _ _)⟩
end Go.Proofs.YtoehcholbcchcaaDoor
end
