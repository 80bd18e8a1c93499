/- Packed from the texts WrG WrH WrI. -/
import Derived.Test.YtppmoeidgefkpaaDoorVkG
import Derived.Test.YtppmoeidgefkpaaDoorVkN
import Derived.Laws.CopyRow
import Derived.Deep.AppendLies
section
namespace Go.Proofs.YtppmoeidgefkpaaDoor
open Go.RowKit
theorem run_copy_all {P : Program} (w : World) (dT sT ty elem : TypeId) (i : TypeInfo) (hu : P.underlying dT = some (.slice elem)) (hi : P.info? elem = some i) (g n dCap : Nat) (sp : Option Addr) (sCap : Nat) (cur : Array Value) (t : TypeId) (cs : List Value)
    (hg : w.heap[g]? = some (.cells cur t (0, 0))) (hn : cs.length = n * i.size) (hcur : cur.size = n * i.size)
    (hsrc : ∀ j v, cs[j]? = some v → ∃ a, sp = some a ∧ w.cell? (a.add j) = some v) (h0 : sp = none → n = 0) (h1 : ∀ v ∈ cs, v.oneCell' = true) :
    ∃ w', (Builtin.copy_ #[dT, sT] ty #[.slice (some ⟨g, 0, none⟩) n dCap, .slice sp n sCap]).run P w = .ok (goInt n) w' ∧ Blk w' g cs.toArray t ∧ Keep g w w' := by
  cases sp with
  | none =>
    obtain rfl := h0 rfl
    have hc : cs = [] := List.eq_nil_of_length_eq_zero (by omega)
    have hz : cur = #[] := Array.eq_empty_of_size_eq_zero (by omega)
    subst hc hz
    refine ⟨w, ?_, hg, Keep.refl g w⟩
    simp [Builtin.copy_, run_underlying hu, Builtin.lenOf, Builtin.firstCells, sizeOf, typeInfo, hi, storeCells]
  | some a =>
    have hl := run_loadCells_list (P := P) w a cs (fun j v hj => by obtain ⟨b, hb, hc⟩ := hsrc j v hj; cases hb; exact hc)
    have hst := run_storeCells_at P g 0 t cs 0 cur w hg (by omega) h1
    have hfull : cur.toList.take (0 + 0) ++ cs ++ cur.toList.drop (0 + 0 + cs.length) = cs := by
      rw [List.drop_eq_nil_of_le (by simp; omega)]
      simp
    rw [hfull] at hst
    refine ⟨w.setRow g cs.toArray, ?_, setRow_heap w g cur _ t _ hg, ⟨rfl, rfl, rfl, by simp [World.setRow], fun k _ hk => setRow_other w g k _ hk⟩⟩
    have hmin : Nat.min n n = n := Nat.min_self n
    simp [Builtin.copy_, run_underlying hu, Builtin.lenOf, Builtin.firstCells, sizeOf, typeInfo, hi, hmin, ← hn, hl, hst]
def attrZs : Array Value := #[.string ⟨#[]⟩, .string ⟨#[]⟩, .string ⟨#[]⟩, .int .i64 0]
theorem madeAttr (n : Nat) : (madeCells attrZs (n * 4)).size = n * 4 := size_madeCells _ _
theorem wpList_copy_all (w : World) {ops : Array Oper} {rest : List Oper} {o : Oper} {a : Act} {Q : Exit → Act → World → Prop} (hgd : o.guard = none) (d s : Operand)
    (ho : o.op = .call { callee := .builtin .copy, args := #[d, s], argTypes := #[22, 22] }) (g : Nat) (al : List AttrD) (sp : Option Addr) (c : Nat) (cur : Array Value) (hg : Blk w g cur 37) (hcur : cur.size = al.length * 4) (hA : AttrsAt w sp al)
    (hd : a.eval d = .slice (some ⟨g, 0, none⟩) al.length al.length) (hs : a.eval s = .slice sp al.length c)
    (h : ∀ w', Blk w' g (attrsCells al).toArray 37 → Keep g w w' → wpList Tryd.prog ops Q rest (a.put o.dst (goInt al.length)) w') : wpList Tryd.prog ops Q (o :: rest) a w := by
  obtain ⟨i0, hi0, hi1, hi3, hi4⟩ := info_parts kinfo_attr
  refine wpList_plain hgd fun K hK => ?_
  obtain ⟨w', hr, hb, hk⟩ := run_copy_all (P := Tryd.prog) w 22 22 o.type 37 i0 Tryd.underlying22 hi0 g al.length al.length sp c cur 37 (attrsCells al) hg (by rw [hi3, attrsCells_len]) (by rw [hi3]; exact hcur)
    (fun j v hj => by
      cases sp with
      | none =>
        have h0 : al = [] := by
          cases al with
          | nil => rfl
          | cons y r => obtain ⟨b, hb, _⟩ := hA 0 (by simp); cases hb
        subst h0
        cases hj
      | some ad => exact ⟨ad, rfl, attrs_news hA j v hj⟩)
    (fun e => by
      subst e
      cases al with
      | nil => rfl
      | cons y r => obtain ⟨b, hb, _⟩ := hA 0 (by simp); cases hb) (attrs_one al)
  unfold Oper.wp execOp
  simp only [ho, resolve, invoke, builtin, Sem.run_bind, Sem.run_pure, Result.andThen_ok, List.map_toArray, List.map_cons, List.map_nil, hd, hs, hr]
  exact hK _ _ (h w' hb hk)
def CopyXAt (n : NodeD) : Prop := ∀ (v : Value) (w : World), NodeIs w n v → Calls Tryd.prog 28 #[v] w fun e w' => ∃ v', e = .returned v' ∧ InIs w' w.heap.size w'.heap.size n v' ∧ Below w.heap.size w w'
set_option maxRecDepth 100000 in
set_option maxHeartbeats 16000000 in
theorem xw_copyOf : ∀ (f : Nat) (n : NodeD), n.cnt ≤ f → n.cnt ≤ 1000000 → n.acnt ≤ 10000000 → CopyXAt n
  | 0, n, hf, _, _ => absurd hf (by have := cnt_eq n; omega)
  | f + 1, n, hf, hc, hac => by
    intro v w hn
    have hae := acnt_eq n
    have hS : ∀ k ∈ n.kids, CopyXAt k := fun k hk => xw_copyOf f k (by have := cnt_kid n k hk; omega) (by have := cnt_kid n k hk; omega) (by have := acnts_mem _ k hk; omega)
    have hkl : n.kids.length ≤ 1000000 := by have := cnts_length n.kids; have := cnt_eq n; omega
    have hal : n.al.length ≤ 10000000 := by omega
    obtain ⟨pa, ca, pk, ck, rfl, hA, hK⟩ := (node_is w n v).1 hn
    obtain ⟨i0, hi0, hi1, hi3, hi4⟩ := info_parts kinfo_node
    have hmk : ∀ wx, (Instr.makeSlice 23 (.int .i64 (n.kids.length : Int)) (.int .i64 (n.kids.length : Int))).run Tryd.prog wx = .ok (.slice (some ⟨wx.heap.size, 0, none⟩) n.kids.length n.kids.length) (wx.alloc (.cells (madeCells nodeZs (n.kids.length * 7)) 25)) := by
      intro wx
      have hr := run_make (P := Tryd.prog) wx 23 25 i0 (.agg nodeZs) Tryd.underlying23 hi0 hi1 .i64 .i64 n.kids.length n.kids.length (by omega) (Int.le_refl _) (by rw [hi4]; omega) (by omega)
      simp only [Int.toNat_natCast, hi3] at hr
      exact hr
    obtain ⟨j0, hj0, hj1, hj3, hj4⟩ := info_parts kinfo_attr
    have hmkA : ∀ wx, (Instr.makeSlice 22 (.int .i64 (n.al.length : Int)) (.int .i64 (n.al.length : Int))).run Tryd.prog wx = .ok (.slice (some ⟨wx.heap.size, 0, none⟩) n.al.length n.al.length) (wx.alloc (.cells (madeCells attrZs (n.al.length * 4)) 37)) := by
      intro wx
      have hr := run_make (P := Tryd.prog) wx 22 37 j0 (.agg attrZs) Tryd.underlying22 hj0 hj1 .i64 .i64 n.al.length n.al.length (by omega) (Int.le_refl _) (by rw [hj4]; omega) (by omega)
      simp only [Int.toNat_natCast, hj3] at hr
      exact hr
    obtain ⟨W1, hW1⟩ : ∃ W1, W1 = (w.alloc (.cells #[.int .i64 n.kind, .string n.sp, .string n.nm, .slice pa n.al.length ca, .slice pk n.kids.length ck, .string n.tx, .int .i64 n.at'] 25)).alloc (.cells #[.int .i64 0, .string ⟨#[]⟩, .string ⟨#[]⟩, .slice none 0 0, .slice none 0 0, .string ⟨#[]⟩, .int .i64 0] 25) := ⟨_, rfl⟩
    have PH : Blk W1 w.heap.size #[.int .i64 n.kind, .string n.sp, .string n.nm, .slice pa n.al.length ca, .slice pk n.kids.length ck, .string n.tx, .int .i64 n.at'] 25 := by
      rw [hW1]
      exact (Blk.new w _ _).more ((Below.refl _ _).alloc (Nat.le_refl _) _)
    have PR : Blk W1 (w.heap.size + 1) nodeZs 25 := by
      have := Blk.new (w.alloc (.cells #[.int .i64 n.kind, .string n.sp, .string n.nm, .slice pa n.al.length ca, .slice pk n.kids.length ck, .string n.tx, .int .i64 n.at'] 25)) nodeZs 25
      rw [hW1]
      simpa [nodeZs] using this
    have B1 : Below w.heap.size w W1 := by rw [hW1]; exact ((Below.refl _ _).alloc (Nat.le_refl _) _).alloc (by simp) _
    have hz1 : W1.heap.size = w.heap.size + 2 := by rw [hW1]; simp
    have hp3 : W1.cell? ⟨w.heap.size, 3, none⟩ = some (.slice pa n.al.length ca) := PH.cell 3
    have HPH := Lib.hid PH
    have HPR := Lib.hid PR
    have HB1 := Lib.hid B1
    have HS := Lib.hid hS
    have HK := Lib.hid hK
    have HA := Lib.hid (hA.below B1)
    clear hn hA hK hS PH PR B1 hae hac hc hf
    go_enter Tryd.func28, Tryd.ntmps28
    go_upto_region 1 with fail
    simp only [← hW1]
    clear hW1
    obtain ⟨W2, hW2⟩ : ∃ W2, W2 = W1.alloc (.cells (madeCells attrZs (n.al.length * 4)) 37) := ⟨_, rfl⟩
    have hz2 : W2.heap.size = w.heap.size + 3 := by rw [hW2]; simp; omega
    have P12 : Below W1.heap.size W1 W2 := by rw [hW2]; exact (Below.refl _ _).alloc (Nat.le_refl _) _
    have PM : Blk W2 (w.heap.size + 2) (madeCells attrZs (n.al.length * 4)) 37 := by
      have := Blk.new W1 (madeCells attrZs (n.al.length * 4)) 37
      rw [hz1] at this
      rw [hW2]
      exact this
    have q3 : W2.cell? ⟨w.heap.size, 3, none⟩ = some (.slice pa n.al.length ca) := (HPH.out.more P12).cell 3
    have HA2 := Lib.hid (HA.out.below P12)
    have HP12 := Lib.hid P12
    have HPM := Lib.hid PM
    clear P12 PM
    go_upto_region 2 with fail
    simp only [← hW2]
    clear hW2
    go_wp2_with (with_reducible refine wpList_copy_all _ rfl (.tmp 11) (.tmp 13) rfl (w.heap.size + 2) n.al pa ca _ HPM.out (madeAttr _) HA2.out rfl rfl ?_)
    intro w3 PA3 K3
    have B3' := K3.below (HB1.out.trans (HP12.out.mono (by omega))) (by omega) (by omega)
    have hz3' := K3.size
    have PH3' := (HPH.out.more HP12.out).keep K3 (by omega)
    have PR3' := (HPR.out.more HP12.out).keep K3 (by omega)
    have q4 : w3.cell? ⟨w.heap.size, 4, none⟩ = some (.slice pk n.kids.length ck) := PH3'.cell 4
    obtain ⟨W3, hW3⟩ : ∃ W3, W3 = w3.alloc (.cells (madeCells nodeZs (n.kids.length * 7)) 25) := ⟨_, rfl⟩
    have hz3 : W3.heap.size = w3.heap.size + 1 := by rw [hW3]; simp
    have PK : Blk W3 w3.heap.size (madeCells nodeZs (n.kids.length * 7)) 25 := by rw [hW3]; exact Blk.new w3 _ _
    have b3 : Below w3.heap.size w3 W3 := by rw [hW3]; exact (Below.refl _ _).alloc (Nat.le_refl _) _
    have PH3 : Blk W3 w.heap.size #[.int .i64 n.kind, .string n.sp, .string n.nm, .slice pa n.al.length ca, .slice pk n.kids.length ck, .string n.tx, .int .i64 n.at'] 25 := PH3'.more b3
    have PR3 : Blk W3 (w.heap.size + 1) nodeZs 25 := PR3'.more b3
    have PA4 : Blk W3 (w.heap.size + 2) (attrsCells n.al).toArray 37 := PA3.more b3
    have B3 : Below w.heap.size w W3 := B3'.trans (b3.mono (by omega))
    have hKC : KC W3 w3.heap.size n.kids W3 0 (madeCells nodeZs (n.kids.length * 7)) := ⟨PK, madeNode _, by rw [List.take_zero, Nat.zero_mul, List.take_zero, InKids]; exact ⟨rfl, by omega⟩, Part.refl _ _⟩
    have HKC := Lib.hid hKC
    have HPH3 := Lib.hid PH3
    have HPR3 := Lib.hid PR3
    have HPA := Lib.hid PA4
    have HB3 := Lib.hid B3
    have HK3 := Lib.hid (HK.out.below B3)
    have h34 : W3.cell? ⟨w.heap.size, 4, none⟩ = some (.slice pk n.kids.length ck) := PH3.cell 4
    have HW3 := Lib.hid hW3
    clear hKC PH3 PR3 B3 PK PH3' PR3' B3' PA3 PA4 K3 b3
    rw [hW3] at h34
    clear hW3
    go_wp2
    go_loopw [22] (fun q wr => ∃ (i : Nat) (cs : Array Value), i ≤ n.kids.length ∧ q = .int .i64 i ∧ KC W3 w3.heap.size n.kids wr i cs) (fun q _ => n.kids.length - (intOf q).toNat)
    case atStart => exact ⟨0, _, Nat.zero_le _, rfl, by rw [← HW3.out]; exact HKC.out⟩
    case round =>
      clear h34 q3 q4
      obtain ⟨i, cs, hi, rfl, hD⟩ := hrel
      have hz := hD.part.size
      have lM := hD.blk.lt
      have hbw : Below w.heap.size w wr := hD.part.below HB3.out (fun k hk => by omega) (by omega)
      by_cases hlt : i < n.kids.length
      · have hiz : (i : Int) < (n.kids.length : Int) := by omega
        obtain ⟨a, qa, da, qk, dk, rfl, ⟨a0, a1, a2, a3, a4, a5, a6⟩, hk⟩ := (HK.out.below hbw).cells i hlt
        have hc1 := HS.out n.kids[i] (List.getElem_mem _)
        have htk : n.kids.take (i + 1) = n.kids.take i ++ [n.kids[i]] := List.take_succ_eq_append_getElem hlt
        obtain ⟨k, hkk⟩ : ∃ k, n.kids[i] = k := ⟨_, rfl⟩
        rw [hkk] at hk hc1 htk a0 a1 a2 a3 a4 a5 a6
        have HTK := Lib.hid htk
        obtain ⟨cc, hcc⟩ : ∃ c, a.add (i * 7) = c := ⟨_, rfl⟩
        rw [hcc] at a0 a1 a2 a3 a4 a5 a6
        simp only [Addr.add, Nat.reduceEqDiff, ↓reduceIte] at a1 a2 a3 a4 a5 a6
        have bA : Below wr.heap.size wr (wr.alloc (.cells #[.int .i64 k.kind, .string k.sp, .string k.nm, .slice qa k.al.length da, .slice qk k.kids.length dk, .string k.tx, .int .i64 k.at'] 25)) := (Below.refl _ _).alloc (Nat.le_refl _) _
        have c1 := hc1 _ _ (hk.below bA)
        have hzA : (wr.alloc (.cells #[.int .i64 k.kind, .string k.sp, .string k.nm, .slice qa k.al.length da, .slice qk k.kids.length dk, .string k.tx, .int .i64 k.at'] 25)).heap.size = wr.heap.size + 1 := by simp
        have HZA := Lib.hid hzA
        have HBA := Lib.hid bA
        have HD := Lib.hid hD
        have HBW := Lib.hid hbw
        clear htk hkk hk hc1 hbw bA hD hzA
        go_wp2_with fail
        refine c1.mono ?_
        rintro e w4 ⟨v4, rfl, hI4, b4⟩
        obtain ⟨pa4, ca4, pk4, ck4, rfl⟩ := in_val hI4
        have b5 := HBA.out.trans (b4.mono HBA.out.size)
        have hz5 := b5.size
        have hz4 := b4.size
        rw [HZA.out] at hz4 hI4
        have PM4 := HD.out.blk.more b5
        have hcs := HD.out.len
        have hi7 : i * 7 + 7 ≤ cs.size := by rw [hcs]; omega
        have e0 : w4.cell? ⟨w3.heap.size, i * 7, none⟩ = some (cs[i * 7]'(by omega)) := by rw [PM4.cell]; exact Array.getElem?_eq_getElem _
        have e1 : w4.cell? ⟨w3.heap.size, i * 7 + 1, none⟩ = some (cs[i * 7 + 1]'(by omega)) := by rw [PM4.cell]; exact Array.getElem?_eq_getElem _
        have e2 : w4.cell? ⟨w3.heap.size, i * 7 + 2, none⟩ = some (cs[i * 7 + 2]'(by omega)) := by rw [PM4.cell]; exact Array.getElem?_eq_getElem _
        have e3 : w4.cell? ⟨w3.heap.size, i * 7 + 3, none⟩ = some (cs[i * 7 + 3]'(by omega)) := by rw [PM4.cell]; exact Array.getElem?_eq_getElem _
        have e4 : w4.cell? ⟨w3.heap.size, i * 7 + 4, none⟩ = some (cs[i * 7 + 4]'(by omega)) := by rw [PM4.cell]; exact Array.getElem?_eq_getElem _
        have e5 : w4.cell? ⟨w3.heap.size, i * 7 + 5, none⟩ = some (cs[i * 7 + 5]'(by omega)) := by rw [PM4.cell]; exact Array.getElem?_eq_getElem _
        have e6 : w4.cell? ⟨w3.heap.size, i * 7 + 6, none⟩ = some (cs[i * 7 + 6]'(by omega)) := by rw [PM4.cell]; exact Array.getElem?_eq_getElem _
        have f0 := PM4.fr (i * 7)
        have f1 := PM4.fr (i * 7 + 1)
        have f2 := PM4.fr (i * 7 + 2)
        have f3 := PM4.fr (i * 7 + 3)
        have f4 := PM4.fr (i * 7 + 4)
        have f5 := PM4.fr (i * 7 + 5)
        have f6 := PM4.fr (i * 7 + 6)
        have hnx : KC W3 w3.heap.size n.kids (((((((w4.setCell ⟨w3.heap.size, i * 7, none⟩ (.int .i64 k.kind)).setCell ⟨w3.heap.size, i * 7 + 1, none⟩ (.string k.sp)).setCell ⟨w3.heap.size, i * 7 + 2, none⟩ (.string k.nm)).setCell ⟨w3.heap.size, i * 7 + 3, none⟩ (.slice pa4 k.al.length ca4)).setCell ⟨w3.heap.size, i * 7 + 4, none⟩ (.slice pk4 k.kids.length ck4)).setCell ⟨w3.heap.size, i * 7 + 5, none⟩ (.string k.tx)).setCell ⟨w3.heap.size, i * 7 + 6, none⟩ (.int .i64 k.at')) (i + 1) (set7 cs (i * 7) (.int .i64 k.kind) (.string k.sp) (.string k.nm) (.slice pa4 k.al.length ca4) (.slice pk4 k.kids.length ck4) (.string k.tx) (.int .i64 k.at')) := by
          have P7 := part_set7 (Part.refl (fun b => b = w3.heap.size) w4) (b := w3.heap.size) (.inl rfl) (i * 7) (.int .i64 k.kind) (.string k.sp) (.string k.nm) (.slice pa4 k.al.length ca4) (.slice pk4 k.kids.length ck4) (.string k.tx) (.int .i64 k.at')
          have hz7 : (((((((w4.setCell ⟨w3.heap.size, i * 7, none⟩ (.int .i64 k.kind)).setCell ⟨w3.heap.size, i * 7 + 1, none⟩ (.string k.sp)).setCell ⟨w3.heap.size, i * 7 + 2, none⟩ (.string k.nm)).setCell ⟨w3.heap.size, i * 7 + 3, none⟩ (.slice pa4 k.al.length ca4)).setCell ⟨w3.heap.size, i * 7 + 4, none⟩ (.slice pk4 k.kids.length ck4)).setCell ⟨w3.heap.size, i * 7 + 5, none⟩ (.string k.tx)).setCell ⟨w3.heap.size, i * 7 + 6, none⟩ (.int .i64 k.at')).heap.size = w4.heap.size := by simp [World.setCell]
          refine ⟨blk_set7 PM4 _ _ _ _ _ _ _ _, by rw [set7_size]; exact hcs, ?_, (HD.out.part.more b5).trans P7 (fun _ _ x => x)⟩
          rw [hz7, HTK.out, show (i + 1) * 7 = i * 7 + 7 by omega, set7_take cs _ _ _ _ _ _ _ _ hi7]
          refine InKids.snoc (hi := wr.heap.size) ?_ _ _ _ (InKids.same (fun b h1 h2 => ?_) _ _ HD.out.done)
          · exact InIs.wide (hi := wr.heap.size + 1) (by omega) (InIs.same (fun b h1 h2 => P7.block b h2 (by omega)) _ _ hI4)
          · exact (P7.block b (by omega) (by omega)).trans (b5.block b h2)
        have HNX := Lib.hid hnx
        clear hnx hI4 b4 b5 PM4
        go_wp2
        go_roundw
        case rel => exact ⟨i + 1, _, by omega, by go_num, HNX.out⟩
        case measure => simp [intOf]; omega
      · obtain rfl : i = n.kids.length := by omega
        have PHr : Blk wr w.heap.size #[.int .i64 n.kind, .string n.sp, .string n.nm, .slice pa n.al.length ca, .slice pk n.kids.length ck, .string n.tx, .int .i64 n.at'] 25 := hD.part.blk HPH3.out (by omega)
        have PRr : Blk wr (w.heap.size + 1) nodeZs 25 := hD.part.blk HPR3.out (by omega)
        have PAr : Blk wr (w.heap.size + 2) (attrsCells n.al).toArray 37 := hD.part.blk HPA.out (by omega)
        have d0 : wr.cell? ⟨w.heap.size, 0, none⟩ = some (.int .i64 n.kind) := PHr.cell 0
        have d1 : wr.cell? ⟨w.heap.size, 1, none⟩ = some (.string n.sp) := PHr.cell 1
        have d2 : wr.cell? ⟨w.heap.size, 2, none⟩ = some (.string n.nm) := PHr.cell 2
        have d3 : wr.cell? ⟨w.heap.size, 3, none⟩ = some (.slice pa n.al.length ca) := PHr.cell 3
        have d4 : wr.cell? ⟨w.heap.size, 4, none⟩ = some (.slice pk n.kids.length ck) := PHr.cell 4
        have d5 : wr.cell? ⟨w.heap.size, 5, none⟩ = some (.string n.tx) := PHr.cell 5
        have d6 : wr.cell? ⟨w.heap.size, 6, none⟩ = some (.int .i64 n.at') := PHr.cell 6
        have f3 := PHr.fr 3
        have f4 := PHr.fr 4
        obtain ⟨⟨r0, r1, r2, r3, r4, r5, r6⟩, k0, k1, k2, k3, k4, k5, k6⟩ := PRr.seven
        have hal0 : n.al.length ≤ maxLen := by unfold maxLen; omega
        have hfin : ∀ W : World, Part (fun b => b = w.heap.size ∨ b = w.heap.size + 1) wr W → InIs W w.heap.size W.heap.size n (.agg #[.int .i64 n.kind, .string n.sp, .string n.nm, .slice (some ⟨w.heap.size + 2, 0, none⟩) n.al.length n.al.length, .slice (some ⟨w3.heap.size, 0, none⟩) n.kids.length n.kids.length, .string n.tx, .int .i64 n.at']) ∧ Below w.heap.size w W := by
          intro W hW
          have hzW := hW.size
          refine ⟨?_, hW.below hbw (fun b hb => by omega) (by omega)⟩
          rw [in_eq]
          refine ⟨_, w3.heap.size, cs, w3.heap.size + 1, rfl, by omega, by omega, ?_, fun g hg => by cases hg; show w.heap.size + 2 < _; omega, by omega, by omega, hW.blk hD.blk (by omega), hD.len, by unfold maxLen; omega, ?_⟩
          · have := row_blk (k := 4) (n := n.al.length) (lo := w.heap.size) (hW.blk PAr (by omega)) (by rw [List.size_toArray, attrsCells_len]) (by omega) hal0
            exact this
          · have hd := hD.done
            rw [List.take_length, List.take_of_length_le (by simp [hD.len])] at hd
            have hw := InKids.same (w' := W) (fun b h1 h2 => hW.block b h2 (by omega)) _ _ hd
            exact InKids.wideR (by omega) _ _ _ hw
        have HF := Lib.hid hfin
        clear hfin hD hbw PHr PRr PAr
        go_wp2
        exact bodyPost_ret (v := .agg #[.int .i64 n.kind, .string n.sp, .string n.nm, .slice (some ⟨w.heap.size + 2, 0, none⟩) n.al.length n.al.length, .slice (some ⟨w3.heap.size, 0, none⟩) n.kids.length n.kids.length, .string n.tx, .int .i64 n.at']) (by simp [results, Tryd.results28, go_sem, cell_set_same, r0, r1, r2, r3, r4, r5, r6]) rfl ⟨_, rfl, HF.out _ (part_out (((Part.refl (fun b => b = w.heap.size ∨ b = w.heap.size + 1) wr).set (q := ⟨w.heap.size, 3, none⟩) (.inl (.inl rfl)) _).set (q := ⟨w.heap.size, 4, none⟩) (.inl (.inl rfl)) _) (b := w.heap.size + 1) (.inl (.inr rfl)) _ _ _ _ _ _ _)⟩
end Go.Proofs.YtppmoeidgefkpaaDoor
end
section
namespace Go.Proofs.YtppmoeidgefkpaaDoor
open Go.RowKit
def keepB (k : NodeD) : Bool := !(decide (k.kind = 1) && noneB k.tx)
def elemP (nm : ByteArray) (kids : List NodeD) : NodeD := .mk 0 ⟨#[]⟩ nm [] (kids.filter keepB) ⟨#[]⟩ 0
def textP (s : ByteArray) : NodeD := .mk 1 ⟨#[]⟩ ⟨#[]⟩ [] [] s 0
theorem keep_yes {k : NodeD} (r : List NodeD) (h : keepB k = true) : (k :: r).filter keepB = k :: r.filter keepB := List.filter_cons_of_pos h
theorem keep_no {k : NodeD} (r : List NodeD) (h : keepB k = false) : (k :: r).filter keepB = r.filter keepB := List.filter_cons_of_neg (by rw [h]; decide)
structure WL (w0 : World) (X : List Nat) (done : List NodeD) (vk : Value) (xs : List Value) (w : World) : Prop where
  row : w.ownsRow w0.heap.size 25 7 vk done.length xs
  kids : KRow (holes w (X ++ vk.ownBlock.toList)) done xs
  below : Below w0.heap.size w0 w
theorem WL.nil (w0 : World) (X : List Nat) {w : World} (hb : Below w0.heap.size w0 w) : WL w0 X [] (.slice none 0 0) [] w := ⟨World.ownsRow_nil _ _ _ _, rfl, hb⟩
theorem WL.more {w0 w w' : World} {X : List Nat} {done : List NodeD} {vk : Value} {xs : List Value} (h : WL w0 X done vk xs w) (hb : Below w.heap.size w w') : WL w0 X done vk xs w' :=
  ⟨row_below h.row hb, KRow.go (Goes.below hb) _ _ h.kids, h.below.trans (hb.mono h.below.size)⟩
theorem WL.push {w0 w w4 : World} {X : List Nat} {done : List NodeD} {vk v5 : Value} {xs : List Value} (h : WL w0 X done vk xs w) {k : NodeD} {c0 c1 c2 c3 c4 c5 c6 : Value} (hg : w.grownBy w4 vk.ownBlock)
    (hk : NodeIs (holes w (X ++ vk.ownBlock.toList)) k (.agg #[c0, c1, c2, c3, c4, c5, c6])) (hr : w4.ownsRow w0.heap.size 25 7 v5 (done.length + 1) (xs ++ [c0, c1, c2, c3, c4, c5, c6])) (hnew : ∀ g, v5.ownBlock = some g → vk.ownBlock = some g ∨ w.heap.size ≤ g) :
    WL w0 X (done ++ [k]) v5 (xs ++ [c0, c1, c2, c3, c4, c5, c6]) w4 := by
  have hgo : Goes w (X ++ vk.ownBlock.toList) w4 (X ++ v5.ownBlock.toList) := fun b hb1 hb2 => by
    refine ⟨fun e => ?_, hg.block b hb1 (fun e => hb2 (List.mem_append_right _ (by rw [← e]; simp)))⟩
    rcases List.mem_append.1 e with e | e
    · exact hb2 (List.mem_append_left _ e)
    have hv : v5.ownBlock = some b := by simpa using e
    rcases hnew b hv with h3 | h3
    · exact hb2 (List.mem_append_right _ (by rw [h3]; simp))
    · omega
  exact ⟨by rw [List.length_append, List.length_singleton]; exact hr, KRow.snoc (hk.go hgo) _ _ (KRow.go hgo _ _ h.kids), h.below.grown hg h.below.size (fun k hk => (row_kind h.row k hk).1)⟩
theorem WL.list {w0 w : World} {X : List Nat} {done : List NodeD} {pv : Option Addr} {cv : Nat} {xs : List Value} (h : WL w0 X done (.slice pv done.length cv) xs w) (hX : ∀ b ∈ X, b < w0.heap.size) : KidsAt (holes w X) pv 0 done := by
  obtain ⟨p, c, hv, hk⟩ := row_kids (L' := X) h.row h.kids (fun b hb => List.mem_append_left _ hb) (fun g hg e => by have := (row_kind h.row g hg).1; have := hX g e; omega)
  injection hv with h1
  rw [h1]
  exact hk
theorem KidsAt.full {w : World} {L : List Nat} {p : Option Addr} {i : Nat} {l : List NodeD} (h : KidsAt (holes w L) p i l) : KidsAt w p i l := KidsAt.mono (fun _ _ hc => (holes_cell hc).1) _ _ _ h
theorem KidsAt.go {w w' : World} {L L' : List Nat} {p : Option Addr} {i : Nat} {l : List NodeD} (h : KidsAt (holes w L) p i l) (hg : Goes w L w' L') : KidsAt (holes w' L') p i l := KidsAt.mono (fun a u => hg.cell a u) _ _ _ h
theorem node9_news (w : World) (t : TypeId) (c0 c1 c2 c3 c4 c5 c6 : Value) : ∀ j u, ([c0, c1, c2, c3, c4, c5, c6] : List Value)[j]? = some u → (w.alloc (.cells #[c0, c1, c2, c3, c4, c5, c6] t)).cell? ((⟨w.heap.size, 0, none⟩ : Addr).add j) = some u := by
  intro j u hu
  rw [addr_add, World.cell?_alloc_at _ _ _ _ rfl, List.getElem?_toArray]
  exact hu
theorem node9_one (k : NodeD) (a : Option Addr) (b : Nat) (c : Option Addr) (d : Nat) : ∀ u ∈ ([.int .i64 k.kind, .string k.sp, .string k.nm, .slice a k.al.length b, .slice c k.kids.length d, .string k.tx, .int .i64 k.at'] : List Value), u.oneCell' = true := by
  intro u hu
  simp only [List.mem_cons, List.not_mem_nil, or_false] at hu
  rcases hu with rfl | rfl | rfl | rfl | rfl | rfl | rfl <;> rfl
mutual
theorem fresh9_is {w : World} {B : Nat} : ∀ (n : NodeD) (v : Value), FreshIs w B n v → NodeIs w n v
  | .mk kind sp nm al kids tx at', v, h => by
    rw [FreshIs] at h
    obtain ⟨va, vk, xs, rfl, ha, hk, hr⟩ := h
    obtain ⟨pa, ca, rfl⟩ := row_val ha
    rw [NodeIs]
    rcases hk.2 with ⟨rfl, h0⟩ | ⟨g, cap, cur, rfl, _, hh, _⟩
    · have : kids = [] := List.length_eq_zero_iff.1 h0
      subst this
      exact ⟨pa, ca, none, 0, rfl, attrs_of_row ha, by rw [KidsAt]; trivial⟩
    · refine ⟨pa, ca, _, cap, rfl, attrs_of_row ha, fresh9_kids kids xs 0 g hr (fun j u hu => ?_)⟩
      have hc := hk.cells (g := g) rfl j u hu
      rw [show (⟨g, 0, none⟩ : Addr).add j = ⟨g, j, none⟩ by unfold Addr.add; split <;> simp_all] at hc
      rw [show 0 * 7 + j = j by omega]
      exact hc
theorem fresh9_kids {w : World} {B : Nat} : ∀ (l : List NodeD) (xs : List Value) (i g : Nat), FreshKids w B l xs → (∀ j u, xs[j]? = some u → w.cell? ⟨g, i * 7 + j, none⟩ = some u) → KidsAt w (some ⟨g, 0, none⟩) i l
  | [], xs, i, g, _, _ => by rw [KidsAt]; trivial
  | k :: r, xs, i, g, h, hc => by
    rw [FreshKids] at h
    obtain ⟨v0, v1, v2, v3, v4, v5, v6, ys, rfl, hn, hr⟩ := h
    rw [KidsAt]
    have ha : ∀ o, (⟨g, 0, none⟩ : Addr).add o = ⟨g, o, none⟩ := fun o => by unfold Addr.add; split <;> simp_all
    have hb : ∀ o q, (⟨g, o, none⟩ : Addr).add q = ⟨g, o + q, none⟩ := fun o q => by unfold Addr.add; split <;> simp_all
    refine ⟨⟨⟨g, 0, none⟩, v0, v1, v2, v3, v4, v5, v6, rfl, ?_, fresh9_is k _ hn⟩, fresh9_kids r ys (i + 1) g hr (fun j u hu => ?_)⟩
    · rw [ha]
      simp only [hb]
      exact ⟨hc 0 v0 rfl, hc 1 v1 rfl, hc 2 v2 rfl, hc 3 v3 rfl, hc 4 v4 rfl, hc 5 v5 rfl, hc 6 v6 rfl⟩
    · have := hc (7 + j) u (by rw [show 7 + j = j + 1 + 1 + 1 + 1 + 1 + 1 + 1 by omega]; simpa using hu)
      rw [show (i + 1) * 7 + j = i * 7 + (7 + j) by omega]
      exact this
end
theorem InIs.outside {w : World} {lo hi : Nat} {L : List Nat} (hL : ∀ b ∈ L, b < lo) {n : NodeD} {v : Value} (h : InIs w lo hi n v) : NodeIs (holes w L) n v :=
  fresh9_is n v (InIs.fresh (Nat.le_refl _) n v (InIs.same (fun k h1 _ => holes_ne w L k (fun e => by have := hL k e; omega)) n v h))
set_option maxRecDepth 100000 in
set_option maxHeartbeats 4000000 in
theorem xw_Text (s : ByteArray) (w : World) : Calls Tryd.prog 17 #[.string s] w fun e w' => ∃ v', e = .returned v' ∧ NodeIs w' (textP s) v' ∧ Below w.heap.size w w' := by
  have hfin : ∀ W : World, Part (fun b => b = w.heap.size) w W → NodeIs W (textP s) (.agg #[.int .i64 1, .string ⟨#[]⟩, .string ⟨#[]⟩, .slice none 0 0, .slice none 0 0, .string s, .int .i64 0]) ∧ Below w.heap.size w W := by
    intro W hW
    refine ⟨?_, hW.below (Below.refl _ _) (fun b hb => by omega) (Nat.le_refl _)⟩
    unfold textP
    rw [NodeIs]
    exact ⟨none, 0, none, 0, rfl, fun i hi => absurd hi (Nat.not_lt_zero _), by rw [KidsAt]; trivial⟩
  have HF := Lib.hid hfin
  obtain ⟨W1, hW1⟩ : ∃ W1, W1 = w.alloc (.cells nodeZs 25) := ⟨_, rfl⟩
  have PR : Blk W1 w.heap.size nodeZs 25 := by rw [hW1]; exact Blk.new w _ _
  have HP := Lib.hid (show Part (fun b => b = w.heap.size) w W1 by rw [hW1]; exact (Part.refl _ w).alloc _)
  obtain ⟨⟨r0, r1, r2, r3, r4, r5, r6⟩, k0, k1, k2, k3, k4, k5, k6⟩ := PR.seven
  unfold nodeZs at hW1
  clear hfin PR
  go_enter Tryd.func17, Tryd.ntmps17
  go_upto_region 1 with fail
  simp only [← hW1]
  clear hW1
  go_wp2
  exact bodyPost_ret (v := .agg #[.int .i64 1, .string ⟨#[]⟩, .string ⟨#[]⟩, .slice none 0 0, .slice none 0 0, .string s, .int .i64 0]) (by simp [results, Tryd.results17, go_sem, cell_set_same, r0, r1, r2, r3, r4, r5, r6]) rfl ⟨_, rfl, HF.out _ (part_set7 HP.out (b := w.heap.size) (.inl rfl) 0 _ _ _ _ _ _ _)⟩
end Go.Proofs.YtppmoeidgefkpaaDoor
end
section
namespace Go.Proofs.YtppmoeidgefkpaaDoor
open Go.RowKit
theorem keep_eq (k : NodeD) : keepB k = !(decide (k.kind = 1) && noneB k.tx) := rfl
set_option maxRecDepth 100000 in
set_option maxHeartbeats 16000000 in
theorem xw_ElemL (L : List Nat) (nm : ByteArray) (kids : List NodeD) (pk : Option Addr) (ck : Nat) (w : World) (hL : ∀ b ∈ L, b < w.heap.size) (hK : KidsAt w pk 0 kids) (hl : kids.length ≤ 1000000) (hc : ∀ k ∈ kids, k.cnt ≤ 1000000 ∧ k.acnt ≤ 10000000) :
    Calls Tryd.prog 12 #[.string nm, .slice pk kids.length ck] w fun e w' => ∃ v', e = .returned v' ∧ NodeIs (holes w' L) (elemP nm kids) v' ∧ Below w.heap.size w w' := by
  obtain ⟨i0, hi0, hi1, hi3, hi4⟩ := info_parts kinfo_node
  have HC := Lib.hid (fun (k : NodeD) (hk : k ∈ kids) => xw_copyOf k.cnt k (Nat.le_refl _) (hc k hk).1 (hc k hk).2)
  have hkl : (kids.length : Int) ≤ 1000000 := by omega
  obtain ⟨W, hW⟩ : ∃ W, W = w.alloc (.cells nodeZs 25) := ⟨_, rfl⟩
  have PR : Blk W w.heap.size nodeZs 25 := by rw [hW]; exact Blk.new w _ _
  have B0 : Below w.heap.size w W := by rw [hW]; exact (Below.refl _ _).alloc (Nat.le_refl _) _
  have hz0 : w.heap.size < W.heap.size := by rw [hW]; simp
  have HPR := Lib.hid PR
  have HLX := Lib.hid hL
  have HB0 := Lib.hid B0
  have HK := Lib.hid (hK.below B0)
  have H0 := Lib.hid (WL.nil W (w.heap.size :: L) (Below.refl W.heap.size W))
  have hee : elemP nm kids = .mk 0 ⟨#[]⟩ nm [] (kids.filter keepB) ⟨#[]⟩ 0 := rfl
  have HEE := Lib.hid hee
  generalize elemP nm kids = EP at *
  unfold nodeZs at hW
  clear PR B0 hK hc hee hL
  go_enter Tryd.func12, Tryd.ntmps12
  go_upto_region 1 with fail
  simp only [← hW]
  clear hW
  go_wp2
  go_loopw [5, 10] (fun v q wr => ∃ (i : Nat) (done : List NodeD) (pv : Option Addr) (cv : Nat) (xs : List Value), i ≤ kids.length ∧ q = .int .i64 i ∧ v = .slice pv done.length cv ∧ done.length ≤ i ∧ kids.filter keepB = done ++ (kids.drop i).filter keepB ∧ WL W (w.heap.size :: L) done (.slice pv done.length cv) xs wr) (fun _ q _ => kids.length - (intOf q).toNat)
  case atStart => exact ⟨0, [], none, 0, [], Nat.zero_le _, rfl, rfl, Nat.le_refl _, rfl, H0.out⟩
  case round =>
    clear H0
    obtain ⟨i, done, pv, cv, xs, hi, rfl, rfl, hdl, hch, hC⟩ := hrel
    have hz := hC.below.size
    by_cases hlt : i < kids.length
    · have hiz : (i : Int) < (kids.length : Int) := by omega
      rw [List.drop_eq_getElem_cons hlt] at hch
      obtain ⟨a, v0, v1, v2, v3, v4, v5, v6, rfl, ⟨a0, a1, a2, a3, a4, a5, a6⟩, hk⟩ := KidsAt.get kids 0 (HK.out.below hC.below) i hlt
      rw [Nat.zero_add] at a0 a1 a2 a3 a4 a5 a6
      have c2 := HC.out _ (List.getElem_mem hlt)
      unfold CopyXAt at c2
      obtain ⟨k, hkk⟩ : ∃ k, kids[i] = k := ⟨_, rfl⟩
      rw [hkk] at hk c2 hch
      obtain ⟨ka, da, kq, dk, hv⟩ := node_form hk
      simp only [Value.agg.injEq, Array.mk.injEq, List.cons.injEq, and_true] at hv
      obtain ⟨rfl, rfl, rfl, rfl, rfl, rfl, rfl⟩ := hv
      obtain ⟨cc, hcc⟩ : ∃ c, a.add (i * 7) = c := ⟨_, rfl⟩
      rw [hcc] at a0 a1 a2 a3 a4 a5 a6
      simp only [Addr.add, Nat.reduceEqDiff, ↓reduceIte] at a1 a2 a3 a4 a5 a6
      have hbe : ∀ o : Obj, Below wr.heap.size wr (wr.alloc o) := fun o => (Below.refl _ _).alloc (Nat.le_refl _) _
      have hze : ∀ o : Obj, (wr.alloc o).heap.size = wr.heap.size + 1 := fun o => by simp
      have cK : ∀ o : Obj, _ := fun o => c2 _ (wr.alloc o) (hk.below (hbe o))
      have hke := keep_eq k
      have HW := Lib.hid hC
      have HKF := Lib.hid (node9_one k)
      clear c2 hk hkk hC
      by_cases hy : keepB k = true
      case neg =>
        have hy0 : keepB k = false := by simpa using hy
        rw [keep_no _ hy0] at hch
        rw [hy0] at hke
        have h1 : k.kind = 1 := by
          by_cases h : k.kind = 1
          · exact h
          · rw [decide_eq_false h] at hke; cases hke
        have h5 : k.tx.size = 0 := by
          by_cases h : k.tx.size = 0
          · exact h
          · rw [noneB_f h, Bool.and_false] at hke; cases hke
        have h5' := str_none h5
        rw [h1] at a0
        rw [h5'] at a5
        have HR := Lib.hid hch
        have q1 : (k.kind != 1) = false := by rw [h1]; rfl
        clear hke hy hy0 h1 h5 h5' hch cK
        go_wp2
        go_roundw
        case rel => exact ⟨i + 1, done, pv, cv, xs, by omega, by go_num, rfl, by omega, HR.out, HW.out.more (hbe _)⟩
        case measure => simp [intOf]; omega
      rw [keep_yes _ hy] at hch
      have HCH := Lib.hid (show kids.filter keepB = (done ++ [k]) ++ (kids.drop (i + 1)).filter keepB by rw [hch, List.append_assoc]; rfl)
      rw [hy] at hke
      clear hch hy
      by_cases h1 : k.kind = 1
      case neg =>
        have q1 : (k.kind != 1) = true := by simpa using h1
        clear hke h1
        go_wp2_with fail
        refine (cK _).mono ?_
        rintro e w4 ⟨v4, rfl, hI4, b4⟩
        obtain ⟨pa4, ca4, pk4, ck4, rfl⟩ := in_val hI4
        have hz4 := b4.size
        rw [hze] at hz4 hI4
        have b5 := (hbe _).trans (b4.mono (by rw [hze]; omega))
        have W5 := HW.out.more b5
        have hlo : ∀ b ∈ (w.heap.size :: L) ++ (Value.slice pv done.length cv).ownBlock.toList, b < wr.heap.size + 1 := fun b hb => by
          rcases List.mem_append.1 hb with hb | hb
          · rcases List.mem_cons.1 hb with rfl | hb
            · omega
            · have := HLX.out b hb; omega
          · have := (own_lt HW.out.row b hb).2; omega
        have HN4 := Lib.hid (InIs.outside hlo hI4)
        have row4 := W5.row
        have HW5 := Lib.hid W5
        clear W5 hI4 b4 hlo cK a0 a1 a2 a3 a4 a5 a6
        go_wp2_with (at_builtin; refine wpList_append_lies _ rfl _ _ 23 rfl W.heap.size 25 i0 (.agg #[.int .i64 0, .string ⟨#[]⟩, .string ⟨#[]⟩, .slice none 0 0, .slice none 0 0, .string ⟨#[]⟩, .int .i64 0]) 7 112 Tryd.underlying23 hi0 hi1 hi3 hi4 rfl (by decide) (.slice pv done.length cv) done.length xs rfl (row4.alloc _) ⟨w4.heap.size, 0, none⟩ 1 1 [.int .i64 k.kind, .string k.sp, .string k.nm, .slice pa4 k.al.length ca4, .slice pk4 k.kids.length ck4, .string k.tx, .int .i64 k.at'] rfl rfl (node9_news w4 _ _ _ _ _ _ _ _) (HKF.out pa4 ca4 pk4 ck4) (by decide) (by unfold maxLen; omega) (by omega) (by simp; omega) (w4.heap.size + 1) (by simp) ?_)
        intro g cap w6 hown6 hgr6 hat6 hlt6
        have bN : Below w4.heap.size w4 (w4.alloc (.cells #[.int .i64 k.kind, .string k.sp, .string k.nm, .slice pa4 k.al.length ca4, .slice pk4 k.kids.length ck4, .string k.tx, .int .i64 k.at'] 25)) := (Below.refl _ _).alloc (Nat.le_refl _) _
        have R6 := (HW5.out.more bN).push hgr6 (HN4.out.go (Goes.below bN)) hown6 (fun g' hg' => by
          rcases hat6 with h | h
          · left; rw [h]; simpa [Value.ownBlock] using hg'
          · right; simp [Value.ownBlock] at hg'; simp; omega)
        have HR6 := Lib.hid R6
        clear R6 hown6 hgr6 hat6 hlt6 bN row4 b5
        go_wp2
        go_roundw
        case rel => exact ⟨i + 1, done ++ [k], some ⟨g, 0, none⟩, cap, _, by omega, by go_num, by rw [List.length_append]; rfl, by rw [List.length_append, List.length_singleton]; omega, HCH.out, by rw [List.length_append, List.length_singleton]; exact HR6.out⟩
        case measure => simp [intOf]; omega
      · have h5 : k.tx.size ≠ 0 := fun h => by rw [decide_eq_true h1, noneB_t h] at hke; cases hke
        obtain ⟨u1, u2, u3, u4⟩ := str_some h5
        have q1 : (k.kind != 1) = false := by rw [h1]; rfl
        clear hke h1 h5
        go_wp2_with fail
        refine (cK _).mono ?_
        rintro e w4 ⟨v4, rfl, hI4, b4⟩
        obtain ⟨pa4, ca4, pk4, ck4, rfl⟩ := in_val hI4
        have hz4 := b4.size
        rw [hze] at hz4 hI4
        have b5 := (hbe _).trans (b4.mono (by rw [hze]; omega))
        have W5 := HW.out.more b5
        have hlo : ∀ b ∈ (w.heap.size :: L) ++ (Value.slice pv done.length cv).ownBlock.toList, b < wr.heap.size + 1 := fun b hb => by
          rcases List.mem_append.1 hb with hb | hb
          · rcases List.mem_cons.1 hb with rfl | hb
            · omega
            · have := HLX.out b hb; omega
          · have := (own_lt HW.out.row b hb).2; omega
        have HN4 := Lib.hid (InIs.outside hlo hI4)
        have row4 := W5.row
        have HW5 := Lib.hid W5
        clear W5 hI4 b4 hlo cK a0 a1 a2 a3 a4 a5 a6
        go_wp2_with (at_builtin; refine wpList_append_lies _ rfl _ _ 23 rfl W.heap.size 25 i0 (.agg #[.int .i64 0, .string ⟨#[]⟩, .string ⟨#[]⟩, .slice none 0 0, .slice none 0 0, .string ⟨#[]⟩, .int .i64 0]) 7 112 Tryd.underlying23 hi0 hi1 hi3 hi4 rfl (by decide) (.slice pv done.length cv) done.length xs rfl (row4.alloc _) ⟨w4.heap.size, 0, none⟩ 1 1 [.int .i64 k.kind, .string k.sp, .string k.nm, .slice pa4 k.al.length ca4, .slice pk4 k.kids.length ck4, .string k.tx, .int .i64 k.at'] rfl rfl (node9_news w4 _ _ _ _ _ _ _ _) (HKF.out pa4 ca4 pk4 ck4) (by decide) (by unfold maxLen; omega) (by omega) (by simp; omega) (w4.heap.size + 1) (by simp) ?_)
        intro g cap w6 hown6 hgr6 hat6 hlt6
        have bN : Below w4.heap.size w4 (w4.alloc (.cells #[.int .i64 k.kind, .string k.sp, .string k.nm, .slice pa4 k.al.length ca4, .slice pk4 k.kids.length ck4, .string k.tx, .int .i64 k.at'] 25)) := (Below.refl _ _).alloc (Nat.le_refl _) _
        have R6 := (HW5.out.more bN).push hgr6 (HN4.out.go (Goes.below bN)) hown6 (fun g' hg' => by
          rcases hat6 with h | h
          · left; rw [h]; simpa [Value.ownBlock] using hg'
          · right; simp [Value.ownBlock] at hg'; simp; omega)
        have HR6 := Lib.hid R6
        clear R6 hown6 hgr6 hat6 hlt6 bN row4 b5
        go_wp2
        go_roundw
        case rel => exact ⟨i + 1, done ++ [k], some ⟨g, 0, none⟩, cap, _, by omega, by go_num, by rw [List.length_append]; rfl, by rw [List.length_append, List.length_singleton]; omega, HCH.out, by rw [List.length_append, List.length_singleton]; exact HR6.out⟩
        case measure => simp [intOf]; omega
    · obtain rfl : i = kids.length := by omega
      have hiz : ¬ (kids.length : Int) < (kids.length : Int) := by omega
      rw [List.drop_length] at hch
      have hd : kids.filter keepB = done := by rw [hch]; simp
      have PRr : Blk wr w.heap.size nodeZs 25 := HPR.out.more hC.below
      obtain ⟨⟨r0, r1, r2, r3, r4, r5, r6⟩, k0, k1, k2, k3, k4, k5, k6⟩ := PRr.seven
      have hfin : ∀ W' : World, Part (fun b => b = w.heap.size) wr W' → NodeIs (holes W' L) EP (.agg #[.int .i64 0, .string ⟨#[]⟩, .string nm, .slice none 0 0, .slice pv done.length cv, .string ⟨#[]⟩, .int .i64 0]) ∧ Below w.heap.size w W' := by
        intro W' hW'
        refine ⟨?_, hW'.below (HB0.out.trans (hC.below.mono (by omega))) (fun b hb => by omega) (by omega)⟩
        rw [HEE.out, hd, NodeIs]
        refine ⟨none, 0, pv, cv, rfl, fun i hi => absurd hi (Nat.not_lt_zero _), ?_⟩
        have h1 := hC.list (fun b hb => by
          rcases List.mem_cons.1 hb with rfl | hb
          · exact hz0
          · have := HLX.out b hb; omega)
        exact KidsAt.go h1 fun b hb hn => ⟨fun e => hn (List.mem_cons_of_mem _ e), hW'.block b hb (fun e => hn (by simp [e]))⟩
      have HF := Lib.hid hfin
      clear hfin hC hch hd PRr
      go_wp2
      exact bodyPost_ret (v := .agg #[.int .i64 0, .string ⟨#[]⟩, .string nm, .slice none 0 0, .slice pv done.length cv, .string ⟨#[]⟩, .int .i64 0]) (by simp [results, Tryd.results12, go_sem, cell_set_same, r0, r1, r2, r3, r4, r5, r6]) rfl ⟨_, rfl, HF.out _ (part_set7 (Part.refl (fun b => b = w.heap.size) wr) (b := w.heap.size) (.inl rfl) 0 _ _ _ _ _ _ _)⟩
theorem xw_Elem (nm : ByteArray) (kids : List NodeD) (pk : Option Addr) (ck : Nat) (w : World) (hK : KidsAt w pk 0 kids) (hl : kids.length ≤ 1000000) (hc : ∀ k ∈ kids, k.cnt ≤ 1000000 ∧ k.acnt ≤ 10000000) :
    Calls Tryd.prog 12 #[.string nm, .slice pk kids.length ck] w fun e w' => ∃ v', e = .returned v' ∧ NodeIs w' (elemP nm kids) v' ∧ Below w.heap.size w w' :=
  (xw_ElemL [] nm kids pk ck w (fun b hb => by cases hb) hK hl hc).mono fun _ _ ⟨v', h1, h2, h3⟩ => ⟨v', h1, h2.full, h3⟩
end Go.Proofs.YtppmoeidgefkpaaDoor
end
