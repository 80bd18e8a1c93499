/- Packed from the texts NsRh. -/
import Derived.Test.YtoehcholbcchcaaDoorSLate
import Derived.Test.YtoehcholbcchcaaDoorSNsG
import Derived.Test.YtoehcholbcchcaaDoorSNsR
import Derived.Test.YtoehcholbcchcaaDoorSkD
import Derived.BigRegion
section
namespace Go.Proofs.YtoehcholbcchcaaDoor
open Go.RowKit
theorem wpList_append_none {P : Program} (w : World) {ops : Array Oper} {rest : List Oper} {o : Oper} {a : Act} {Q : Exit → Act → World → Prop} (hgd : o.guard = none) (sl x : Operand) (t : TypeId)
    (ho : o.op = .call { callee := .builtin .append, args := #[sl, x], argTypes := #[t, t] }) (e : TypeId) (i : TypeInfo) (ht : P.underlying t = some (.slice e)) (hi : P.info? e = some i) (b : Addr) (k c : Nat)
    (hs : a.eval sl = .slice (some b) 0 k) (hx : a.eval x = .slice none 0 c) (h : wpList P ops Q rest (a.put o.dst (.slice (some b) 0 k)) w) : wpList P ops Q (o :: rest) a w := by
  refine wpList_plain hgd fun K hK => ?_
  have hS := Src.ofNil (P := P) (size := i.size) w ht c
  have hc := hS.cells
  have hr : (Builtin.append_ #[t, t] o.type #[.slice (some b) 0 k, .slice none 0 c]).run P w = .ok (.slice (some b) 0 k) w := by
    simp [Builtin.append_, run_underlying ht, sizeOf, typeInfo, hi, hS.len, hc, storeCells]
  unfold Oper.wp execOp
  simp only [ho, resolve, invoke, builtin, Sem.run_bind, Sem.run_pure, Result.andThen_ok, List.map_toArray, List.map_cons, List.map_nil, hs, hx, hr]
  exact hK _ _ h
set_option maxRecDepth 100000 in
theorem wpList_copy_bds (w : World) {ops : Array Oper} {rest : List Oper} {o : Oper} {a : Act} {Q : Exit → Act → World → Prop} (hgd : o.guard = none) (sl x : Operand)
    (ho : o.op = .call { callee := .builtin .append, args := #[sl, x], argTypes := #[109, 109] }) (p : Option Addr) (c lo : Nat) (L : List Bd) (hR : w.ownsRow lo 137 2 (.slice p L.length c) L.length (bdsCells L)) (hl : L.length ≤ 1000000000)
    (hs : a.eval sl = .slice (some ⟨w.heap.size, 0, none⟩) 0 0) (hx : a.eval x = .slice p L.length c) (h : ∀ pb cb w', w'.ownsRow w.heap.size 137 2 (.slice pb L.length cb) L.length (bdsCells L) → Below w.heap.size w w' → wpList Tryd.prog ops Q rest (a.put o.dst (.slice pb L.length cb)) w') : wpList Tryd.prog ops Q (o :: rest) a (w.alloc (.cells #[] 137)) := by
  obtain ⟨i0, hi0, hi1, hi3, hi4⟩ := info_parts kinfo_bd
  have hm : (w.alloc (.cells #[] 137)).ownsRow w.heap.size 137 2 (.slice (some ⟨w.heap.size, 0, none⟩) 0 0) 0 [] := World.ownsRow_made w #[] 0 (Nat.le_refl _) (Nat.zero_le _) rfl
  have bm : Below w.heap.size w (w.alloc (.cells #[] 137)) := (Below.refl _ _).alloc (Nat.le_refl _) _
  cases p with
  | none =>
    have h0 : L = [] := by
      rcases hR.2 with ⟨_, h1⟩ | ⟨g, cap, cur, hv, _⟩
      · exact List.eq_nil_of_length_eq_zero h1
      · cases hv
    subst h0
    exact wpList_append_none _ hgd sl x _ ho 137 i0 Tryd.underlying109 hi0 _ 0 c hs hx (h (some ⟨w.heap.size, 0, none⟩) 0 _ hm bm)
  | some ad =>
    have hR' := row_below hR bm
    refine wpList_append_own _ hgd sl x _ ho w.heap.size 137 i0 (.agg #[.string ⟨#[]⟩, .string ⟨#[]⟩]) 2 32 Tryd.underlying109 hi0 hi1 hi3 hi4 rfl (by decide) (.slice (some ⟨w.heap.size, 0, none⟩) 0 0) 0 [] hs hm ad L.length c (bdsCells L) hx (bdsCells_len L) (fun j u hj => ?_) (bds_one L) (by unfold maxLen; omega) (by omega) (by simp) ?_
    · rcases hR'.2 with ⟨hv, _⟩ | ⟨g, cap, cur, hv, _⟩
      · cases hv
      · injection hv with hv
        cases hv
        exact hR'.cells (g := g) rfl j u hj
    · intro v' w' hown hgr _
      rw [Nat.zero_add, List.nil_append] at hown
      obtain ⟨pa, ca, rfl⟩ := own_form hown
      exact h pa ca w' hown (bm.grown hgr bm.size (fun k hk => by simp [Value.ownBlock] at hk; omega))
def HeadR (L : List Bd) (n : NodeD) (w : World) (e : Ending) (w' : World) : Prop := Below w.heap.size w w' ∧
  ((∃ a er s0 s1 p3 n3 c3, er ≠ 0 ∧ resP L.reverse n = (zeroN, a, er) ∧ e = .returned (.tuple #[.agg #[.int .i64 0, .string s0, .string s1, .slice p3 n3 c3, .slice none 0 0, .string ⟨#[]⟩, .int .i64 n.at'], .slice none 0 0, .int .i64 a, .int .i64 er])) ∨
   (∃ sp acc pa' ca' L' pb' cb', resP L.reverse n = (if (resKids L'.reverse n.kids).2.2 ≠ 0 then (zeroN, (resKids L'.reverse n.kids).2.1, (resKids L'.reverse n.kids).2.2) else (.mk n.kind sp (splitP n.nm).2.1 acc (resKids L'.reverse n.kids).1 n.tx n.at', 0, 0)) ∧
     e = .returned (.tuple #[.agg #[.int .i64 0, .string sp, .string (splitP n.nm).2.1, .slice pa' acc.length ca', .slice none 0 0, .string ⟨#[]⟩, .int .i64 n.at'], .slice pb' L'.length cb', .int .i64 0, .int .i64 0]) ∧
     w'.ownsRow w.heap.size 43 4 (.slice pa' acc.length ca') acc.length (attrsCells acc) ∧ w'.ownsRow w.heap.size 137 2 (.slice pb' L'.length cb') L'.length (bdsCells L') ∧ L'.length ≤ L.length + n.al.length))
structure HB (n : NodeD) (pa : Option Addr) (ca : Nat) (pk : Option Addr) (ck : Nat) (hs R M : Nat) (s0 s1 : ByteArray) (va : Value) (w : World) : Prop where
  nod : Blk w hs #[.int .i64 n.kind, .string n.sp, .string n.nm, .slice pa n.al.length ca, .slice pk n.kids.length ck, .string n.tx, .int .i64 n.at'] 29
  res : Blk w R nodeZs 29
  out : Blk w M #[.int .i64 0, .string s0, .string s1, va, .slice none 0 0, .string ⟨#[]⟩, .int .i64 n.at'] 29
theorem HB.grown {n : NodeD} {pa : Option Addr} {ca : Nat} {pk : Option Addr} {ck hs R M B : Nat} {s0 s1 : ByteArray} {va : Value} {w w' : World} {row : Option Nat} (h : HB n pa ca pk ck hs R M s0 s1 va w) (hg : w.grownBy w' row) (hr : ∀ k, row = some k → B ≤ k) (h1 : hs < B) (h2 : R < B) (h3 : M < B) : HB n pa ca pk ck hs R M s0 s1 va w' :=
  ⟨(hg.block hs h.nod.lt (fun e => by have := hr hs e.symm; omega)).trans h.nod, (hg.block R h.res.lt (fun e => by have := hr R e.symm; omega)).trans h.res, (hg.block M h.out.lt (fun e => by have := hr M e.symm; omega)).trans h.out⟩
theorem HB.below {n : NodeD} {pa : Option Addr} {ca : Nat} {pk : Option Addr} {ck hs R M : Nat} {s0 s1 : ByteArray} {va : Value} {w w' : World} (h : HB n pa ca pk ck hs R M s0 s1 va w) (hb : Below w.heap.size w w') : HB n pa ca pk ck hs R M s0 s1 va w' := ⟨h.nod.more hb, h.res.more hb, h.out.more hb⟩
theorem below7 {B : Nat} {a w : World} (h : Below B a w) {b : Nat} (hb : B ≤ b) (v0 v1 v2 v3 v4 v5 v6 : Value) : Below B a (((((((w.setCell ⟨b, 0, none⟩ v0).setCell ⟨b, 1, none⟩ v1).setCell ⟨b, 2, none⟩ v2).setCell ⟨b, 3, none⟩ v3).setCell ⟨b, 4, none⟩ v4).setCell ⟨b, 5, none⟩ v5).setCell ⟨b, 6, none⟩ v6) :=
  ((((((h.setCell (p := ⟨b, 0, none⟩) hb v0).setCell (p := ⟨b, 1, none⟩) hb v1).setCell (p := ⟨b, 2, none⟩) hb v2).setCell (p := ⟨b, 3, none⟩) hb v3).setCell (p := ⟨b, 4, none⟩) hb v4).setCell (p := ⟨b, 5, none⟩) hb v5).setCell (p := ⟨b, 6, none⟩) hb v6
theorem row_low {w : World} {B B' : Nat} {e : TypeId} {k n : Nat} {v : Value} {xs : List Value} (h : w.ownsRow B e k v n xs) (hB : B' ≤ B) : w.ownsRow B' e k v n xs := by
  refine ⟨h.1, ?_⟩
  rcases h.2 with h2 | ⟨g, cap, cur, hv, hg, r⟩
  · exact .inl h2
  · exact .inr ⟨g, cap, cur, hv, Nat.le_trans hB hg, r⟩
theorem row_keep7 {w : World} {B R : Nat} {e : TypeId} {k n : Nat} {v : Value} {xs : List Value} (h : w.ownsRow B e k v n xs) (hR : R < B) (u0 u1 u2 u3 u4 u5 u6 : Value) : (((((((w.setCell ⟨R, 0, none⟩ u0).setCell ⟨R, 1, none⟩ u1).setCell ⟨R, 2, none⟩ u2).setCell ⟨R, 3, none⟩ u3).setCell ⟨R, 4, none⟩ u4).setCell ⟨R, 5, none⟩ u5).setCell ⟨R, 6, none⟩ u6).ownsRow B e k v n xs :=
  ((((((((Keep.refl R w).set 0 u0).set 1 u1).set 2 u2).set 3 u3).set 4 u4).set 5 u5).set 6 u6).row h hR
theorem set_cell7 {w : World} {R : Nat} {a : Addr} {v : Value} (h : w.cell? a = some v) (hne : a.block ≠ R) (u0 u1 u2 u3 u4 u5 u6 : Value) : (((((((w.setCell ⟨R, 0, none⟩ u0).setCell ⟨R, 1, none⟩ u1).setCell ⟨R, 2, none⟩ u2).setCell ⟨R, 3, none⟩ u3).setCell ⟨R, 4, none⟩ u4).setCell ⟨R, 5, none⟩ u5).setCell ⟨R, 6, none⟩ u6).drew.cell? a = some v := by
  have hk : Keep R w (((((((w.setCell ⟨R, 0, none⟩ u0).setCell ⟨R, 1, none⟩ u1).setCell ⟨R, 2, none⟩ u2).setCell ⟨R, 3, none⟩ u3).setCell ⟨R, 4, none⟩ u4).setCell ⟨R, 5, none⟩ u5).setCell ⟨R, 6, none⟩ u6).drew := (((((((((Keep.refl R w).set 0 u0).set 1 u1).set 2 u2).set 3 u3).set 4 u4).set 5 u5).set 6 u6)).drew
  exact (hk.cell (kblock_lt h) hne).trans h
set_option maxRecDepth 100000 in
set_option maxHeartbeats 16000000 in
theorem nref_head (n : NodeD) (pa : Option Addr) (ca : Nat) (pk : Option Addr) (ck : Nat) (L : List Bd) (pb : Option Addr) (cb lo : Nat) (w : World) (hA : AttrsAt w pa n.al) (hO : AtOk n.al) (hnm : n.nm.size ≤ 1000000) (hal : n.al.length ≤ 10000000) (hR : w.ownsRow lo 137 2 (.slice pb L.length cb) L.length (bdsCells L)) (hl : L.length ≤ 900000000) :
    Calls Tryd.prog 54 #[.agg #[.int .i64 n.kind, .string n.sp, .string n.nm, .slice pa n.al.length ca, .slice pk n.kids.length ck, .string n.tx, .int .i64 n.at'], .slice pb L.length cb] w fun e w' => HeadR L n w e w' := by
  obtain ⟨i0, hi0, hi1, hi3, hi4⟩ := info_parts kinfo_bd
  obtain ⟨j0, hj0, hj1, hj3, hj4⟩ := info_parts kinfo_attr
  have hres := res_eq L.reverse n
  have c1 : ∀ wx, _ := fun wx => nref_Split n.nm wx hnm
  obtain ⟨W, hW⟩ : ∃ W, W = ((w.alloc (.cells #[.int .i64 n.kind, .string n.sp, .string n.nm, .slice pa n.al.length ca, .slice pk n.kids.length ck, .string n.tx, .int .i64 n.at'] 29)).alloc (.cells nodeZs 29)).alloc (.cells #[.int .i64 0, .string ⟨#[]⟩, .string ⟨#[]⟩, .slice none 0 0, .slice none 0 0, .string ⟨#[]⟩, .int .i64 n.at'] 29) := ⟨_, rfl⟩
  have hzW : W.heap.size = w.heap.size + 3 := by rw [hW]; simp
  have bW : Below w.heap.size w W := by rw [hW]; exact (((Below.refl _ _).alloc (Nat.le_refl _) _).alloc (by simp) _).alloc (by simp; omega) _
  have hz1 : (w.alloc (.cells #[.int .i64 n.kind, .string n.sp, .string n.nm, .slice pa n.al.length ca, .slice pk n.kids.length ck, .string n.tx, .int .i64 n.at'] 29)).heap.size = w.heap.size + 1 := by simp
  have hz2 : ((w.alloc (.cells #[.int .i64 n.kind, .string n.sp, .string n.nm, .slice pa n.al.length ca, .slice pk n.kids.length ck, .string n.tx, .int .i64 n.at'] 29)).alloc (.cells nodeZs 29)).heap.size = w.heap.size + 2 := by simp
  have kW : HB n pa ca pk ck w.heap.size (w.heap.size + 1) (w.heap.size + 1 + 1) ⟨#[]⟩ ⟨#[]⟩ (.slice none 0 0) W := by
    rw [hW]
    refine ⟨((Blk.new w _ _).more ((Below.refl _ _).alloc (Nat.le_refl _) _)).more ((Below.refl _ _).alloc (Nat.le_refl _) _), ?_, ?_⟩
    · have := (Blk.new (w.alloc (.cells #[.int .i64 n.kind, .string n.sp, .string n.nm, .slice pa n.al.length ca, .slice pk n.kids.length ck, .string n.tx, .int .i64 n.at'] 29)) nodeZs 29).more ((Below.refl _ _).alloc (Nat.le_refl _) (.cells #[.int .i64 0, .string ⟨#[]⟩, .string ⟨#[]⟩, .slice none 0 0, .slice none 0 0, .string ⟨#[]⟩, .int .i64 n.at'] 29))
      rwa [hz1] at this
    · have := Blk.new ((w.alloc (.cells #[.int .i64 n.kind, .string n.sp, .string n.nm, .slice pa n.al.length ca, .slice pk n.kids.length ck, .string n.tx, .int .i64 n.at'] 29)).alloc (.cells nodeZs 29)) #[.int .i64 0, .string ⟨#[]⟩, .string ⟨#[]⟩, .slice none 0 0, .slice none 0 0, .string ⟨#[]⟩, .int .i64 n.at'] 29
      rwa [hz2] at this
  clear hz1 hz2
  have HA0 := Lib.hid hA
  have HR := Lib.hid (row_below hR bW)
  have HO := Lib.hid hO
  have HW := Lib.hid hW
  have HRS := Lib.hid hres
  have HK := Lib.hid kW
  have HBW := Lib.hid bW
  obtain ⟨p, hp⟩ : ∃ p, (splitP n.nm).1 = p := ⟨_, rfl⟩
  obtain ⟨l, hlc⟩ : ∃ l, (splitP n.nm).2.1 = l := ⟨_, rfl⟩
  obtain ⟨ok, hok⟩ : ∃ ok, (splitP n.nm).2.2 = ok := ⟨_, rfl⟩
  rw [hp, hlc, hok] at c1
  have f6 := kW.nod.cell 6
  have f2 := kW.nod.cell 2
  simp only [List.getElem?_toArray, List.getElem?_cons_succ, List.getElem?_cons_zero] at f2 f6
  clear hA hR hO hres bW kW
  go_enter Tryd.func54, Tryd.ntmps54
  go_upto_region 2 with fail
  simp only [nodeZs] at hW
  simp only [← hW]
  clear hW
  have hhs : w.heap.size ≤ w.heap.size + 1 := by omega
  have hne1 : w.heap.size + 1 + 1 ≠ w.heap.size + 1 := by omega
  have hne2 : w.heap.size ≠ w.heap.size + 1 := by omega
  have hne3 : w.heap.size ≠ w.heap.size + 1 + 1 := by omega
  have hlm : w.heap.size + 1 + 1 < W.heap.size := by omega
  have hlo : w.heap.size + 1 + 1 ≥ w.heap.size := by omega
  have hrm : w.heap.size + 1 < w.heap.size + 1 + 1 := by omega
  generalize hqM : w.heap.size + 1 + 1 = M at hne1 hne3 hlm hlo hrm HK ⊢
  generalize hqR : w.heap.size + 1 = R at hhs hne1 hne2 hrm HK ⊢
  generalize hq : w.heap.size = hs at hhs hne2 hne3 hlo HK hzW f2 f6 HBW ⊢
  have HQ := Lib.hid (And.intro hq (And.intro hqR hqM))
  clear hq hqR hqM hzW
  by_cases hbad : ok = false ∨ p = xmlnsB
  · have hE : resP L.reverse n = (zeroN, n.at', 13) := by rw [HRS.out, hp, hok, if_pos hbad]
    have HE := Lib.hid hE
    cases ok with
    | false =>
      clear hE hbad f6 hp hlc hok
      go_wp2_with fail
      refine (c1 _).mono ?_
      rintro e w1 ⟨rfl, b1⟩
      have K1 := HK.out.below b1
      have B1 := HBW.out.trans (b1.mono (by omega))
      have ha := K1.nod.cell 6
      simp only [List.getElem?_toArray, List.getElem?_cons_succ, List.getElem?_cons_zero] at ha
      obtain ⟨⟨r0, r1, r2, r3, r4, r5, r6⟩, g0, g1, g2, g3, g4, g5, g6⟩ := K1.res.seven
      have o0 := K1.out.cell 0
      have o1 := K1.out.cell 1
      have o2 := K1.out.cell 2
      have o3 := K1.out.cell 3
      have o4 := K1.out.cell 4
      have o5 := K1.out.cell 5
      have o6 := K1.out.cell 6
      simp only [List.getElem?_toArray, List.getElem?_cons_succ, List.getElem?_cons_zero] at o0 o1 o2 o3 o4 o5 o6
      have HB1 := Lib.hid B1
      clear K1 B1 b1 HA0 HR HO
      go_wp2
      have hS0 : w1.drew.cell? ⟨M, 0, none⟩ = some (.int .i64 0) ∧ w1.drew.cell? ⟨M, 1, none⟩ = some (.string ⟨#[]⟩) ∧ w1.drew.cell? ⟨M, 2, none⟩ = some (.string ⟨#[]⟩) ∧ w1.drew.cell? ⟨M, 3, none⟩ = some (.slice none 0 0) ∧ w1.drew.cell? ⟨M, 4, none⟩ = some (.slice none 0 0) ∧ w1.drew.cell? ⟨M, 5, none⟩ = some (.string ⟨#[]⟩) ∧ w1.drew.cell? ⟨M, 6, none⟩ = some (.int .i64 n.at') ∧ w1.drew.cell? ⟨hs, 6, none⟩ = some (.int .i64 n.at') := ⟨o0, o1, o2, o3, o4, o5, o6, ha⟩
      have hSs := fun y0 y1 y2 y3 y4 y5 y6 => (show _ ∧ _ ∧ _ ∧ _ ∧ _ ∧ _ ∧ _ ∧ _ from ⟨set_cell7 (R := R) o0 hne1 y0 y1 y2 y3 y4 y5 y6, set_cell7 (R := R) o1 hne1 y0 y1 y2 y3 y4 y5 y6, set_cell7 (R := R) o2 hne1 y0 y1 y2 y3 y4 y5 y6, set_cell7 (R := R) o3 hne1 y0 y1 y2 y3 y4 y5 y6, set_cell7 (R := R) o4 hne1 y0 y1 y2 y3 y4 y5 y6, set_cell7 (R := R) o5 hne1 y0 y1 y2 y3 y4 y5 y6, set_cell7 (R := R) o6 hne1 y0 y1 y2 y3 y4 y5 y6, set_cell7 (R := R) ha hne2 y0 y1 y2 y3 y4 y5 y6⟩)
      refine wp_region_late (S := fun w' => w'.cell? ⟨M, 0, none⟩ = some (.int .i64 0) ∧ w'.cell? ⟨M, 1, none⟩ = some (.string ⟨#[]⟩) ∧ w'.cell? ⟨M, 2, none⟩ = some (.string ⟨#[]⟩) ∧ w'.cell? ⟨M, 3, none⟩ = some (.slice none 0 0) ∧ w'.cell? ⟨M, 4, none⟩ = some (.slice none 0 0) ∧ w'.cell? ⟨M, 5, none⟩ = some (.string ⟨#[]⟩) ∧ w'.cell? ⟨M, 6, none⟩ = some (.int .i64 n.at') ∧ w'.cell? ⟨hs, 6, none⟩ = some (.int .i64 n.at')) (D := []) (by kernel_rfl) ?_
      refine anyL_take (i := 0) (oi := { dst := some 45, op := Go.Op.load 29 (Go.Operand.tmp 8), type := 29, pos := "ref.go:57", after := #[], guard := none }) (v := ?_) rfl (by decide) (by kernel_rfl) (by kernel_rfl) (by kernel_rfl) (by kernel_rfl) (fun _ _ _ h => h) (Or.inl ⟨by rfl, ?_⟩) hS0 ?_
      rotate_left
      · intro wz hSz
        obtain ⟨z0, z1, z2, z3, z4, z5, z6, z7⟩ := hSz
        go_simp
        (try with_reducible rfl)
      try simp only [Act.put, List.setIfInBounds_toArray, List.set_cons_zero, List.set_cons_succ]
      refine anyL_take (i := 1) (oi := { dst := some 46, op := Go.Op.fieldAddr 29 (Go.Operand.tmp 2) 6, type := 0, pos := "ref.go:57", after := #[{ on := 4, ground := Go.Ground.gcOnly Go.Departure.lateStores }], guard := none }) (v := ?_) rfl (by decide) (by kernel_rfl) (by kernel_rfl) (by kernel_rfl) (by kernel_rfl) (fun _ _ _ h => h) (Or.inl ⟨by rfl, ?_⟩) hS0 ?_
      rotate_left
      · intro wz hSz
        obtain ⟨z0, z1, z2, z3, z4, z5, z6, z7⟩ := hSz
        go_simp
        (try with_reducible rfl)
      try simp only [Act.put, List.setIfInBounds_toArray, List.set_cons_zero, List.set_cons_succ]
      refine anyL_take (i := 2) (oi := { dst := some 47, op := Go.Op.load 3 (Go.Operand.tmp 46), type := 3, pos := "ref.go:57", after := #[{ on := 1, ground := Go.Ground.data }, { on := 4, ground := Go.Ground.gcOnly Go.Departure.lateStores }], guard := none }) (v := ?_) rfl (by decide) (by kernel_rfl) (by kernel_rfl) (by kernel_rfl) (by kernel_rfl) (fun _ _ _ h => h) (Or.inl ⟨by rfl, ?_⟩) hS0 ?_
      rotate_left
      · intro wz hSz
        obtain ⟨z0, z1, z2, z3, z4, z5, z6, z7⟩ := hSz
        go_simp
        (try with_reducible rfl)
      try simp only [Act.put, List.setIfInBounds_toArray, List.set_cons_zero, List.set_cons_succ]
      refine anyL_ready (rs := [3]) (by kernel_rfl) (by simp) ?_
      refine AllL.cons (o := { dst := none, op := Go.Op.store 29 (Go.Operand.tmp 4) (Go.Operand.tmp 45), type := 0, pos := "ref.go:57", after := #[{ on := 0, ground := Go.Ground.data }, { on := 0, ground := Go.Ground.phase }, { on := 1, ground := Go.Ground.textOnly Go.Departure.lateStores }, { on := 2, ground := Go.Ground.textOnly Go.Departure.lateStores }], guard := none }) rfl (fun K hK => ?_) AllL.nil
      go_simp
      refine hK _ _ (hSs _ _ _ _ _ _ _) ?_
      clear hK K
      try simp only [Act.put, List.setIfInBounds_toArray, List.set_cons_zero, List.set_cons_succ]
      refine anyL_take (i := 4) (oi := { dst := some 5, op := Go.Op.assign (Go.Operand.const (Go.Value.slice none 0 0)), type := 109, pos := "ref.go:57", after := #[{ on := 3, ground := Go.Ground.chain }, { on := 0, ground := Go.Ground.phase }, { on := 1, ground := Go.Ground.textOnly Go.Departure.lateStores }, { on := 2, ground := Go.Ground.textOnly Go.Departure.lateStores }, { on := 3, ground := Go.Ground.phase }], guard := none }) (v := ?_) rfl (by decide) (by kernel_rfl) (by kernel_rfl) (by kernel_rfl) (by kernel_rfl) (fun _ _ _ h => h) (Or.inl ⟨by rfl, ?_⟩) (hSs _ _ _ _ _ _ _) ?_
      rotate_left
      · intro wz hSz
        obtain ⟨z0, z1, z2, z3, z4, z5, z6, z7⟩ := hSz
        go_simp
        (try with_reducible rfl)
      try simp only [Act.put, List.setIfInBounds_toArray, List.set_cons_zero, List.set_cons_succ]
      refine anyL_take (i := 5) (oi := { dst := some 6, op := Go.Op.assign (Go.Operand.tmp 47), type := 3, pos := "ref.go:57", after := #[{ on := 2, ground := Go.Ground.data }, { on := 4, ground := Go.Ground.chain }, { on := 0, ground := Go.Ground.phase }, { on := 1, ground := Go.Ground.phase }, { on := 2, ground := Go.Ground.phase }, { on := 3, ground := Go.Ground.phase }, { on := 4, ground := Go.Ground.phase }], guard := none }) (v := ?_) rfl (by decide) (by kernel_rfl) (by kernel_rfl) (by kernel_rfl) (by kernel_rfl) (fun _ _ _ h => h) (Or.inl ⟨by rfl, ?_⟩) (hSs _ _ _ _ _ _ _) ?_
      rotate_left
      · intro wz hSz
        obtain ⟨z0, z1, z2, z3, z4, z5, z6, z7⟩ := hSz
        go_simp
        (try with_reducible rfl)
      try simp only [Act.put, List.setIfInBounds_toArray, List.set_cons_zero, List.set_cons_succ]
      refine anyL_take (i := 6) (oi := { dst := some 7, op := Go.Op.assign (Go.Operand.const (Go.Value.int Go.IntKind.i64 13)), type := 3, pos := "ref.go:57", after := #[{ on := 5, ground := Go.Ground.chain }, { on := 0, ground := Go.Ground.phase }, { on := 1, ground := Go.Ground.phase }, { on := 2, ground := Go.Ground.phase }, { on := 3, ground := Go.Ground.phase }, { on := 4, ground := Go.Ground.phase }, { on := 5, ground := Go.Ground.phase }], guard := none }) (v := ?_) rfl (by decide) (by kernel_rfl) (by kernel_rfl) (by kernel_rfl) (by kernel_rfl) (fun _ _ _ h => h) (Or.inl ⟨by rfl, ?_⟩) (hSs _ _ _ _ _ _ _) ?_
      rotate_left
      · intro wz hSz
        obtain ⟨z0, z1, z2, z3, z4, z5, z6, z7⟩ := hSz
        go_simp
        (try with_reducible rfl)
      try simp only [Act.put, List.setIfInBounds_toArray, List.set_cons_zero, List.set_cons_succ]
      refine anyL_done (by kernel_rfl) ?_ _
      go_wp2
      refine bodyPost_ret (v := .tuple #[.agg #[.int .i64 0, .string ⟨#[]⟩, .string ⟨#[]⟩, .slice none 0 0, .slice none 0 0, .string ⟨#[]⟩, .int .i64 n.at'], .slice none 0 0, .int .i64 n.at', .int .i64 13]) (by simp [results, Tryd.results54, go_sem, cell_set_same, r0, r1, r2, r3, r4, r5, r6]) rfl ?_
      exact ⟨by rw [HQ.out.1]; exact (below7 HB1.out hhs _ _ _ _ _ _ _).drew, .inl ⟨_, _, _, _, _, _, _, by decide, HE.out, rfl⟩⟩
    | true =>
      have hpx : p = xmlnsB := by rcases hbad with h | h; cases h; exact h
      subst hpx
      unfold xmlnsB at c1
      clear hE hbad f6 hp hlc hok
      go_wp2_with fail
      refine (c1 _).mono ?_
      rintro e w1 ⟨rfl, b1⟩
      have K1 := HK.out.below b1
      have B1 := HBW.out.trans (b1.mono (by omega))
      have ha := K1.nod.cell 6
      simp only [List.getElem?_toArray, List.getElem?_cons_succ, List.getElem?_cons_zero] at ha
      obtain ⟨⟨r0, r1, r2, r3, r4, r5, r6⟩, g0, g1, g2, g3, g4, g5, g6⟩ := K1.res.seven
      have o0 := K1.out.cell 0
      have o1 := K1.out.cell 1
      have o2 := K1.out.cell 2
      have o3 := K1.out.cell 3
      have o4 := K1.out.cell 4
      have o5 := K1.out.cell 5
      have o6 := K1.out.cell 6
      simp only [List.getElem?_toArray, List.getElem?_cons_succ, List.getElem?_cons_zero] at o0 o1 o2 o3 o4 o5 o6
      have HB1 := Lib.hid B1
      clear K1 B1 b1 HA0 HR HO
      go_wp2
      have hS0 : w1.drew.cell? ⟨M, 0, none⟩ = some (.int .i64 0) ∧ w1.drew.cell? ⟨M, 1, none⟩ = some (.string ⟨#[]⟩) ∧ w1.drew.cell? ⟨M, 2, none⟩ = some (.string ⟨#[]⟩) ∧ w1.drew.cell? ⟨M, 3, none⟩ = some (.slice none 0 0) ∧ w1.drew.cell? ⟨M, 4, none⟩ = some (.slice none 0 0) ∧ w1.drew.cell? ⟨M, 5, none⟩ = some (.string ⟨#[]⟩) ∧ w1.drew.cell? ⟨M, 6, none⟩ = some (.int .i64 n.at') ∧ w1.drew.cell? ⟨hs, 6, none⟩ = some (.int .i64 n.at') := ⟨o0, o1, o2, o3, o4, o5, o6, ha⟩
      have hSs := fun y0 y1 y2 y3 y4 y5 y6 => (show _ ∧ _ ∧ _ ∧ _ ∧ _ ∧ _ ∧ _ ∧ _ from ⟨set_cell7 (R := R) o0 hne1 y0 y1 y2 y3 y4 y5 y6, set_cell7 (R := R) o1 hne1 y0 y1 y2 y3 y4 y5 y6, set_cell7 (R := R) o2 hne1 y0 y1 y2 y3 y4 y5 y6, set_cell7 (R := R) o3 hne1 y0 y1 y2 y3 y4 y5 y6, set_cell7 (R := R) o4 hne1 y0 y1 y2 y3 y4 y5 y6, set_cell7 (R := R) o5 hne1 y0 y1 y2 y3 y4 y5 y6, set_cell7 (R := R) o6 hne1 y0 y1 y2 y3 y4 y5 y6, set_cell7 (R := R) ha hne2 y0 y1 y2 y3 y4 y5 y6⟩)
      refine wp_region_late (S := fun w' => w'.cell? ⟨M, 0, none⟩ = some (.int .i64 0) ∧ w'.cell? ⟨M, 1, none⟩ = some (.string ⟨#[]⟩) ∧ w'.cell? ⟨M, 2, none⟩ = some (.string ⟨#[]⟩) ∧ w'.cell? ⟨M, 3, none⟩ = some (.slice none 0 0) ∧ w'.cell? ⟨M, 4, none⟩ = some (.slice none 0 0) ∧ w'.cell? ⟨M, 5, none⟩ = some (.string ⟨#[]⟩) ∧ w'.cell? ⟨M, 6, none⟩ = some (.int .i64 n.at') ∧ w'.cell? ⟨hs, 6, none⟩ = some (.int .i64 n.at')) (D := []) (by kernel_rfl) ?_
      refine anyL_take (i := 0) (oi := { dst := some 45, op := Go.Op.load 29 (Go.Operand.tmp 8), type := 29, pos := "ref.go:57", after := #[], guard := none }) (v := ?_) rfl (by decide) (by kernel_rfl) (by kernel_rfl) (by kernel_rfl) (by kernel_rfl) (fun _ _ _ h => h) (Or.inl ⟨by rfl, ?_⟩) hS0 ?_
      rotate_left
      · intro wz hSz
        obtain ⟨z0, z1, z2, z3, z4, z5, z6, z7⟩ := hSz
        go_simp
        (try with_reducible rfl)
      try simp only [Act.put, List.setIfInBounds_toArray, List.set_cons_zero, List.set_cons_succ]
      refine anyL_take (i := 1) (oi := { dst := some 46, op := Go.Op.fieldAddr 29 (Go.Operand.tmp 2) 6, type := 0, pos := "ref.go:57", after := #[{ on := 4, ground := Go.Ground.gcOnly Go.Departure.lateStores }], guard := none }) (v := ?_) rfl (by decide) (by kernel_rfl) (by kernel_rfl) (by kernel_rfl) (by kernel_rfl) (fun _ _ _ h => h) (Or.inl ⟨by rfl, ?_⟩) hS0 ?_
      rotate_left
      · intro wz hSz
        obtain ⟨z0, z1, z2, z3, z4, z5, z6, z7⟩ := hSz
        go_simp
        (try with_reducible rfl)
      try simp only [Act.put, List.setIfInBounds_toArray, List.set_cons_zero, List.set_cons_succ]
      refine anyL_take (i := 2) (oi := { dst := some 47, op := Go.Op.load 3 (Go.Operand.tmp 46), type := 3, pos := "ref.go:57", after := #[{ on := 1, ground := Go.Ground.data }, { on := 4, ground := Go.Ground.gcOnly Go.Departure.lateStores }], guard := none }) (v := ?_) rfl (by decide) (by kernel_rfl) (by kernel_rfl) (by kernel_rfl) (by kernel_rfl) (fun _ _ _ h => h) (Or.inl ⟨by rfl, ?_⟩) hS0 ?_
      rotate_left
      · intro wz hSz
        obtain ⟨z0, z1, z2, z3, z4, z5, z6, z7⟩ := hSz
        go_simp
        (try with_reducible rfl)
      try simp only [Act.put, List.setIfInBounds_toArray, List.set_cons_zero, List.set_cons_succ]
      refine anyL_ready (rs := [3]) (by kernel_rfl) (by simp) ?_
      refine AllL.cons (o := { dst := none, op := Go.Op.store 29 (Go.Operand.tmp 4) (Go.Operand.tmp 45), type := 0, pos := "ref.go:57", after := #[{ on := 0, ground := Go.Ground.data }, { on := 0, ground := Go.Ground.phase }, { on := 1, ground := Go.Ground.textOnly Go.Departure.lateStores }, { on := 2, ground := Go.Ground.textOnly Go.Departure.lateStores }], guard := none }) rfl (fun K hK => ?_) AllL.nil
      go_simp
      refine hK _ _ (hSs _ _ _ _ _ _ _) ?_
      clear hK K
      try simp only [Act.put, List.setIfInBounds_toArray, List.set_cons_zero, List.set_cons_succ]
      refine anyL_take (i := 4) (oi := { dst := some 5, op := Go.Op.assign (Go.Operand.const (Go.Value.slice none 0 0)), type := 109, pos := "ref.go:57", after := #[{ on := 3, ground := Go.Ground.chain }, { on := 0, ground := Go.Ground.phase }, { on := 1, ground := Go.Ground.textOnly Go.Departure.lateStores }, { on := 2, ground := Go.Ground.textOnly Go.Departure.lateStores }, { on := 3, ground := Go.Ground.phase }], guard := none }) (v := ?_) rfl (by decide) (by kernel_rfl) (by kernel_rfl) (by kernel_rfl) (by kernel_rfl) (fun _ _ _ h => h) (Or.inl ⟨by rfl, ?_⟩) (hSs _ _ _ _ _ _ _) ?_
      rotate_left
      · intro wz hSz
        obtain ⟨z0, z1, z2, z3, z4, z5, z6, z7⟩ := hSz
        go_simp
        (try with_reducible rfl)
      try simp only [Act.put, List.setIfInBounds_toArray, List.set_cons_zero, List.set_cons_succ]
      refine anyL_take (i := 5) (oi := { dst := some 6, op := Go.Op.assign (Go.Operand.tmp 47), type := 3, pos := "ref.go:57", after := #[{ on := 2, ground := Go.Ground.data }, { on := 4, ground := Go.Ground.chain }, { on := 0, ground := Go.Ground.phase }, { on := 1, ground := Go.Ground.phase }, { on := 2, ground := Go.Ground.phase }, { on := 3, ground := Go.Ground.phase }, { on := 4, ground := Go.Ground.phase }], guard := none }) (v := ?_) rfl (by decide) (by kernel_rfl) (by kernel_rfl) (by kernel_rfl) (by kernel_rfl) (fun _ _ _ h => h) (Or.inl ⟨by rfl, ?_⟩) (hSs _ _ _ _ _ _ _) ?_
      rotate_left
      · intro wz hSz
        obtain ⟨z0, z1, z2, z3, z4, z5, z6, z7⟩ := hSz
        go_simp
        (try with_reducible rfl)
      try simp only [Act.put, List.setIfInBounds_toArray, List.set_cons_zero, List.set_cons_succ]
      refine anyL_take (i := 6) (oi := { dst := some 7, op := Go.Op.assign (Go.Operand.const (Go.Value.int Go.IntKind.i64 13)), type := 3, pos := "ref.go:57", after := #[{ on := 5, ground := Go.Ground.chain }, { on := 0, ground := Go.Ground.phase }, { on := 1, ground := Go.Ground.phase }, { on := 2, ground := Go.Ground.phase }, { on := 3, ground := Go.Ground.phase }, { on := 4, ground := Go.Ground.phase }, { on := 5, ground := Go.Ground.phase }], guard := none }) (v := ?_) rfl (by decide) (by kernel_rfl) (by kernel_rfl) (by kernel_rfl) (by kernel_rfl) (fun _ _ _ h => h) (Or.inl ⟨by rfl, ?_⟩) (hSs _ _ _ _ _ _ _) ?_
      rotate_left
      · intro wz hSz
        obtain ⟨z0, z1, z2, z3, z4, z5, z6, z7⟩ := hSz
        go_simp
        (try with_reducible rfl)
      try simp only [Act.put, List.setIfInBounds_toArray, List.set_cons_zero, List.set_cons_succ]
      refine anyL_done (by kernel_rfl) ?_ _
      go_wp2
      refine bodyPost_ret (v := .tuple #[.agg #[.int .i64 0, .string ⟨#[]⟩, .string ⟨#[]⟩, .slice none 0 0, .slice none 0 0, .string ⟨#[]⟩, .int .i64 n.at'], .slice none 0 0, .int .i64 n.at', .int .i64 13]) (by simp [results, Tryd.results54, go_sem, cell_set_same, r0, r1, r2, r3, r4, r5, r6]) rfl ?_
      exact ⟨by rw [HQ.out.1]; exact (below7 HB1.out hhs _ _ _ _ _ _ _).drew, .inl ⟨_, _, _, _, _, _, _, by decide, HE.out, rfl⟩⟩
  · have hok1 : ok = true := by
      cases ok
      · exact absurd (.inl rfl) hbad
      · rfl
    subst hok1
    have hpx : ¬ p = xmlnsB := fun e => hbad (.inr e)
    have hpb : (p.toList == [120, 109, 108, 110, 115]) = false := cne hpx rfl
    have hE1 := HRS.out
    rw [hp, hlc, hok, if_neg hbad] at hE1
    have hps : p.size ≤ 1000000 := by rw [← hp]; exact Nat.le_trans (split_size n.nm).1 hnm
    have HE1 := Lib.hid hE1
    have HLC := Lib.hid hlc
    clear hE1 hbad hpx HRS hp hok hlc f6
    go_wp2_with fail
    refine (c1 _).mono ?_
    rintro e w1 ⟨rfl, b1⟩
    have HK1 := Lib.hid (HK.out.below b1)
    have HBx := Lib.hid (HBW.out.trans (b1.mono (by omega)))
    have R1 := row_below HR.out b1
    have hz1 := b1.size
    clear b1 c1 HK HBW HR f2
    go_wp2_with (at_builtin; refine wpList_copy_bds w1 rfl _ _ rfl pb cb lo L R1 (by omega) rfl rfl ?_)
    intro pb1 cb1 w2 hD2 b2
    have H0 := Lib.hid (And.intro hD2 b2)
    clear hD2 b2 R1
    go_wp2
    go_loopw [12, 13] (fun v q wr => ∃ (i : Nat) (D : List Bd) (pd : Option Addr) (cd : Nat), i ≤ n.al.length ∧ q = .int .i64 i ∧ v = .slice pd D.length cd ∧ D.length ≤ L.length + i ∧ declsP L.reverse n.al = declsP D.reverse (n.al.drop i) ∧ wr.ownsRow w1.heap.size 137 2 (.slice pd D.length cd) D.length (bdsCells D) ∧ Below w1.heap.size w1 wr) (fun _ q _ => n.al.length - (intOf q).toNat)
    case atStart => exact ⟨0, L, pb1, cb1, Nat.zero_le _, rfl, rfl, by omega, rfl, H0.out.1, H0.out.2⟩
    case round =>
      obtain ⟨i, D, pd, cd, hi, rfl, rfl, hDl, hdc, hrow, hb⟩ := hrel
      have hz := hb.size
      have Kr := HK1.out.below hb
      have f3 := Kr.nod.cell 3
      simp only [List.getElem?_toArray, List.getElem?_cons_succ, List.getElem?_cons_zero] at f3
      have Bw := HBx.out.trans (hb.mono (by omega))
      by_cases hlt : i < n.al.length
      · have hiz : (i : Int) < (n.al.length : Int) := by omega
        obtain ⟨a, rfl, a0, a1, a2, a3⟩ := (HA0.out.below (by rw [HQ.out.1]; exact Bw)) i hlt
        have hst := decls_step D.reverse n.al i hlt
        have hAi := HO.out n.al[i] (List.getElem_mem _)
        obtain ⟨x, hx⟩ : ∃ x, n.al[i] = x := ⟨_, rfl⟩
        rw [hx] at a0 a1 a2 a3 hst hAi
        obtain ⟨cc, hcc⟩ : ∃ c, a.add (i * 4) = c := ⟨_, rfl⟩
        rw [hcc] at a0 a1 a2 a3
        simp only [Addr.add, Nat.reduceEqDiff, ↓reduceIte] at a1 a2 a3
        obtain ⟨sp, nm, va, at'⟩ := x
        simp only at a0 a1 a2 a3 hst hAi
        have kA : Blk (wr.alloc (.cells #[.string sp, .string nm, .string va, .int .i64 at'] 43)) wr.heap.size #[.string sp, .string nm, .string va, .int .i64 at'] 43 := Blk.new wr _ _
        have bA : Below wr.heap.size wr (wr.alloc (.cells #[.string sp, .string nm, .string va, .int .i64 at'] 43)) := (Below.refl _ _).alloc (Nat.le_refl _) _
        have cS := nref_Split nm (wr.alloc (.cells #[.string sp, .string nm, .string va, .int .i64 at'] 43)) hAi.1
        have cD : ∀ wx, _ := fun wx => nref_declares sp nm va at' wx hAi.1
        have HKA := Lib.hid kA
        have HBA := Lib.hid bA
        have HB := Lib.hid hb
        have HROW := Lib.hid hrow
        have hneA : wr.heap.size ≠ R := by omega
        clear kA bA hb hrow hx Kr Bw
        cases hg : (splitP nm).2.2 with
        | false =>
          rw [hg] at cS
          rw [if_pos hg] at hst
          have hE : resP L.reverse n = (zeroN, at', 13) := by rw [HE1.out, hdc, hst]; exact if_pos (by simp)
          have HE := Lib.hid hE
          clear hE hst hg HE1 hdc
          go_wp2_with fail
          refine cS.mono ?_
          rintro e w3 ⟨rfl, b3⟩
          have kA3 := HKA.out.more b3
          have s0 := kA3.cell 0
          have s1 := kA3.cell 1
          have s2 := kA3.cell 2
          have s3 := kA3.cell 3
          simp only [List.getElem?_toArray, List.getElem?_cons_succ, List.getElem?_cons_zero] at s0 s1 s2 s3
          have cD3 := cD w3
          have HKA3 := Lib.hid kA3
          have HB3 := Lib.hid (HBA.out.trans (b3.mono HBA.out.size))
          clear kA3 b3 cS cD HKA HBA a0 a1 a2 a3
          go_wp2_with fail
          refine cD3.mono ?_
          rintro e w4 ⟨rfl, b4⟩
          have kA4 := HKA3.out.more b4
          have b14 := HB3.out.trans (b4.mono HB3.out.size)
          clear cD3 b4 s0 s1 s2 s3 HKA3 HB3
          have ha := kA4.cell 3
          have s2 := kA4.cell 2
          simp only [List.getElem?_toArray, List.getElem?_cons_succ, List.getElem?_cons_zero] at ha s2
          have Bz := HB.out.trans (b14.mono HB.out.size)
          have K4 := HK1.out.below Bz
          obtain ⟨⟨r0, r1, r2, r3, r4, r5, r6⟩, g0, g1, g2, g3, g4, g5, g6⟩ := K4.res.seven
          have o0 := K4.out.cell 0
          have o1 := K4.out.cell 1
          have o2 := K4.out.cell 2
          have o3 := K4.out.cell 3
          have o4 := K4.out.cell 4
          have o5 := K4.out.cell 5
          have o6 := K4.out.cell 6
          simp only [List.getElem?_toArray, List.getElem?_cons_succ, List.getElem?_cons_zero] at o0 o1 o2 o3 o4 o5 o6
          have HB1 := Lib.hid (HBx.out.trans (Bz.mono (by omega)))
          have hne2 := hneA
          clear K4 Bz b14 kA4 f3
          go_wp2
          have hS0 : w4.drew.cell? ⟨M, 0, none⟩ = some (.int .i64 0) ∧ w4.drew.cell? ⟨M, 1, none⟩ = some (.string ⟨#[]⟩) ∧ w4.drew.cell? ⟨M, 2, none⟩ = some (.string ⟨#[]⟩) ∧ w4.drew.cell? ⟨M, 3, none⟩ = some (.slice none 0 0) ∧ w4.drew.cell? ⟨M, 4, none⟩ = some (.slice none 0 0) ∧ w4.drew.cell? ⟨M, 5, none⟩ = some (.string ⟨#[]⟩) ∧ w4.drew.cell? ⟨M, 6, none⟩ = some (.int .i64 n.at') ∧ w4.drew.cell? ⟨wr.heap.size, 3, none⟩ = some (.int .i64 at') := ⟨o0, o1, o2, o3, o4, o5, o6, ha⟩
          have hSs := fun y0 y1 y2 y3 y4 y5 y6 => (show _ ∧ _ ∧ _ ∧ _ ∧ _ ∧ _ ∧ _ ∧ _ from ⟨set_cell7 (R := R) o0 hne1 y0 y1 y2 y3 y4 y5 y6, set_cell7 (R := R) o1 hne1 y0 y1 y2 y3 y4 y5 y6, set_cell7 (R := R) o2 hne1 y0 y1 y2 y3 y4 y5 y6, set_cell7 (R := R) o3 hne1 y0 y1 y2 y3 y4 y5 y6, set_cell7 (R := R) o4 hne1 y0 y1 y2 y3 y4 y5 y6, set_cell7 (R := R) o5 hne1 y0 y1 y2 y3 y4 y5 y6, set_cell7 (R := R) o6 hne1 y0 y1 y2 y3 y4 y5 y6, set_cell7 (R := R) ha hne2 y0 y1 y2 y3 y4 y5 y6⟩)
          refine wp_region_late (S := fun w' => w'.cell? ⟨M, 0, none⟩ = some (.int .i64 0) ∧ w'.cell? ⟨M, 1, none⟩ = some (.string ⟨#[]⟩) ∧ w'.cell? ⟨M, 2, none⟩ = some (.string ⟨#[]⟩) ∧ w'.cell? ⟨M, 3, none⟩ = some (.slice none 0 0) ∧ w'.cell? ⟨M, 4, none⟩ = some (.slice none 0 0) ∧ w'.cell? ⟨M, 5, none⟩ = some (.string ⟨#[]⟩) ∧ w'.cell? ⟨M, 6, none⟩ = some (.int .i64 n.at') ∧ w'.cell? ⟨wr.heap.size, 3, none⟩ = some (.int .i64 at')) (D := []) (by kernel_rfl) ?_
          refine anyL_take (i := 0) (oi := { dst := some 97, op := Go.Op.load 29 (Go.Operand.tmp 8), type := 29, pos := "ref.go:65", after := #[], guard := none }) (v := ?_) rfl (by decide) (by kernel_rfl) (by kernel_rfl) (by kernel_rfl) (by kernel_rfl) (fun _ _ _ h => h) (Or.inl ⟨by rfl, ?_⟩) hS0 ?_
          rotate_left
          · intro wz hSz
            obtain ⟨z0, z1, z2, z3, z4, z5, z6, z7⟩ := hSz
            go_simp
            (try with_reducible rfl)
          try simp only [Act.put, List.setIfInBounds_toArray, List.set_cons_zero, List.set_cons_succ]
          refine anyL_take (i := 1) (oi := { dst := some 98, op := Go.Op.fieldAddr 43 (Go.Operand.tmp 14) 3, type := 0, pos := "ref.go:65", after := #[{ on := 4, ground := Go.Ground.gcOnly Go.Departure.lateStores }], guard := none }) (v := ?_) rfl (by decide) (by kernel_rfl) (by kernel_rfl) (by kernel_rfl) (by kernel_rfl) (fun _ _ _ h => h) (Or.inl ⟨by rfl, ?_⟩) hS0 ?_
          rotate_left
          · intro wz hSz
            obtain ⟨z0, z1, z2, z3, z4, z5, z6, z7⟩ := hSz
            go_simp
            (try with_reducible rfl)
          try simp only [Act.put, List.setIfInBounds_toArray, List.set_cons_zero, List.set_cons_succ]
          refine anyL_take (i := 2) (oi := { dst := some 99, op := Go.Op.load 3 (Go.Operand.tmp 98), type := 3, pos := "ref.go:65", after := #[{ on := 1, ground := Go.Ground.data }, { on := 4, ground := Go.Ground.gcOnly Go.Departure.lateStores }], guard := none }) (v := ?_) rfl (by decide) (by kernel_rfl) (by kernel_rfl) (by kernel_rfl) (by kernel_rfl) (fun _ _ _ h => h) (Or.inl ⟨by rfl, ?_⟩) hS0 ?_
          rotate_left
          · intro wz hSz
            obtain ⟨z0, z1, z2, z3, z4, z5, z6, z7⟩ := hSz
            go_simp
            (try with_reducible rfl)
          try simp only [Act.put, List.setIfInBounds_toArray, List.set_cons_zero, List.set_cons_succ]
          refine anyL_ready (rs := [3]) (by kernel_rfl) (by simp) ?_
          refine AllL.cons (o := { dst := none, op := Go.Op.store 29 (Go.Operand.tmp 4) (Go.Operand.tmp 97), type := 0, pos := "ref.go:65", after := #[{ on := 0, ground := Go.Ground.data }, { on := 0, ground := Go.Ground.phase }, { on := 1, ground := Go.Ground.textOnly Go.Departure.lateStores }, { on := 2, ground := Go.Ground.textOnly Go.Departure.lateStores }], guard := none }) rfl (fun K hK => ?_) AllL.nil
          go_simp
          refine hK _ _ (hSs _ _ _ _ _ _ _) ?_
          clear hK K
          try simp only [Act.put, List.setIfInBounds_toArray, List.set_cons_zero, List.set_cons_succ]
          refine anyL_take (i := 4) (oi := { dst := some 5, op := Go.Op.assign (Go.Operand.const (Go.Value.slice none 0 0)), type := 109, pos := "ref.go:65", after := #[{ on := 3, ground := Go.Ground.chain }, { on := 0, ground := Go.Ground.phase }, { on := 1, ground := Go.Ground.textOnly Go.Departure.lateStores }, { on := 2, ground := Go.Ground.textOnly Go.Departure.lateStores }, { on := 3, ground := Go.Ground.phase }], guard := none }) (v := ?_) rfl (by decide) (by kernel_rfl) (by kernel_rfl) (by kernel_rfl) (by kernel_rfl) (fun _ _ _ h => h) (Or.inl ⟨by rfl, ?_⟩) (hSs _ _ _ _ _ _ _) ?_
          rotate_left
          · intro wz hSz
            obtain ⟨z0, z1, z2, z3, z4, z5, z6, z7⟩ := hSz
            go_simp
            (try with_reducible rfl)
          try simp only [Act.put, List.setIfInBounds_toArray, List.set_cons_zero, List.set_cons_succ]
          refine anyL_take (i := 5) (oi := { dst := some 6, op := Go.Op.assign (Go.Operand.tmp 99), type := 3, pos := "ref.go:65", after := #[{ on := 2, ground := Go.Ground.data }, { on := 4, ground := Go.Ground.chain }, { on := 0, ground := Go.Ground.phase }, { on := 1, ground := Go.Ground.phase }, { on := 2, ground := Go.Ground.phase }, { on := 3, ground := Go.Ground.phase }, { on := 4, ground := Go.Ground.phase }], guard := none }) (v := ?_) rfl (by decide) (by kernel_rfl) (by kernel_rfl) (by kernel_rfl) (by kernel_rfl) (fun _ _ _ h => h) (Or.inl ⟨by rfl, ?_⟩) (hSs _ _ _ _ _ _ _) ?_
          rotate_left
          · intro wz hSz
            obtain ⟨z0, z1, z2, z3, z4, z5, z6, z7⟩ := hSz
            go_simp
            (try with_reducible rfl)
          try simp only [Act.put, List.setIfInBounds_toArray, List.set_cons_zero, List.set_cons_succ]
          refine anyL_take (i := 6) (oi := { dst := some 7, op := Go.Op.assign (Go.Operand.const (Go.Value.int Go.IntKind.i64 13)), type := 3, pos := "ref.go:65", after := #[{ on := 5, ground := Go.Ground.chain }, { on := 0, ground := Go.Ground.phase }, { on := 1, ground := Go.Ground.phase }, { on := 2, ground := Go.Ground.phase }, { on := 3, ground := Go.Ground.phase }, { on := 4, ground := Go.Ground.phase }, { on := 5, ground := Go.Ground.phase }], guard := none }) (v := ?_) rfl (by decide) (by kernel_rfl) (by kernel_rfl) (by kernel_rfl) (by kernel_rfl) (fun _ _ _ h => h) (Or.inl ⟨by rfl, ?_⟩) (hSs _ _ _ _ _ _ _) ?_
          rotate_left
          · intro wz hSz
            obtain ⟨z0, z1, z2, z3, z4, z5, z6, z7⟩ := hSz
            go_simp
            (try with_reducible rfl)
          try simp only [Act.put, List.setIfInBounds_toArray, List.set_cons_zero, List.set_cons_succ]
          refine anyL_done (by kernel_rfl) ?_ _
          go_wp2
          refine bodyPost_ret (v := .tuple #[.agg #[.int .i64 0, .string ⟨#[]⟩, .string ⟨#[]⟩, .slice none 0 0, .slice none 0 0, .string ⟨#[]⟩, .int .i64 n.at'], .slice none 0 0, .int .i64 at', .int .i64 13]) (by simp [results, Tryd.results54, go_sem, cell_set_same, r0, r1, r2, r3, r4, r5, r6]) rfl ?_
          exact ⟨by rw [HQ.out.1]; exact (below7 HB1.out hhs _ _ _ _ _ _ _).drew, .inl ⟨_, _, _, _, _, _, _, by decide, HE.out, rfl⟩⟩
        | true =>
          rw [hg] at cS
          rw [if_neg (by rw [hg]; simp)] at hst
          cases hd : declP nm with
          | none =>
            rw [hd] at hst
            simp only at hst
            have hr2 := declR_none hd
            rw [hr2] at cD
            have HN := Lib.hid (hdc.trans hst)
            clear hst hd hg hr2 hdc
            go_wp2_with fail
            refine cS.mono ?_
            rintro e w3 ⟨rfl, b3⟩
            have kA3 := HKA.out.more b3
            have s0 := kA3.cell 0
            have s1 := kA3.cell 1
            have s2 := kA3.cell 2
            have s3 := kA3.cell 3
            simp only [List.getElem?_toArray, List.getElem?_cons_succ, List.getElem?_cons_zero] at s0 s1 s2 s3
            have cD3 := cD w3
            have HKA3 := Lib.hid kA3
            have HB3 := Lib.hid (HBA.out.trans (b3.mono HBA.out.size))
            clear kA3 b3 cS cD HKA HBA a0 a1 a2 a3
            go_wp2_with fail
            refine cD3.mono ?_
            rintro e w4 ⟨rfl, b4⟩
            have kA4 := HKA3.out.more b4
            have b14 := HB3.out.trans (b4.mono HB3.out.size)
            clear cD3 b4 s0 s1 s2 s3 HKA3 HB3
            have hrow4 := Lib.hid (row_below HROW.out b14)
            have B4 := Lib.hid (HB.out.trans (b14.mono HB.out.size))
            clear b14 kA4
            go_wp2
            go_roundw
            case rel => exact ⟨i + 1, D, pd, cd, by omega, by go_num, rfl, by omega, HN.out, hrow4.out, B4.out⟩
            case measure => simp [intOf]; omega
          | some d =>
            rw [hd] at hst
            simp only at hst
            rw [declR_some hd] at cD
            simp only at cD
            clear hd hg
            by_cases e1 : d = xmlB
            · subst e1
              unfold xmlB at cD
              rw [if_pos (show badDecl xmlB va from .inl rfl)] at hst
              have hE : resP L.reverse n = (zeroN, at', 13) := by rw [HE1.out, hdc, hst]; exact if_pos (by simp)
              have HE := Lib.hid hE
              clear hE hst HE1 hdc
              go_wp2_with fail
              refine cS.mono ?_
              rintro e w3 ⟨rfl, b3⟩
              have kA3 := HKA.out.more b3
              have s0 := kA3.cell 0
              have s1 := kA3.cell 1
              have s2 := kA3.cell 2
              have s3 := kA3.cell 3
              simp only [List.getElem?_toArray, List.getElem?_cons_succ, List.getElem?_cons_zero] at s0 s1 s2 s3
              have cD3 := cD w3
              have HKA3 := Lib.hid kA3
              have HB3 := Lib.hid (HBA.out.trans (b3.mono HBA.out.size))
              clear kA3 b3 cS cD HKA HBA a0 a1 a2 a3
              go_wp2_with fail
              refine cD3.mono ?_
              rintro e w4 ⟨rfl, b4⟩
              have kA4 := HKA3.out.more b4
              have b14 := HB3.out.trans (b4.mono HB3.out.size)
              clear cD3 b4 s0 s1 s2 s3 HKA3 HB3
              have ha := kA4.cell 3
              have s2 := kA4.cell 2
              simp only [List.getElem?_toArray, List.getElem?_cons_succ, List.getElem?_cons_zero] at ha s2
              have Bz := HB.out.trans (b14.mono HB.out.size)
              have K4 := HK1.out.below Bz
              obtain ⟨⟨r0, r1, r2, r3, r4, r5, r6⟩, g0, g1, g2, g3, g4, g5, g6⟩ := K4.res.seven
              have o0 := K4.out.cell 0
              have o1 := K4.out.cell 1
              have o2 := K4.out.cell 2
              have o3 := K4.out.cell 3
              have o4 := K4.out.cell 4
              have o5 := K4.out.cell 5
              have o6 := K4.out.cell 6
              simp only [List.getElem?_toArray, List.getElem?_cons_succ, List.getElem?_cons_zero] at o0 o1 o2 o3 o4 o5 o6
              have HB1 := Lib.hid (HBx.out.trans (Bz.mono (by omega)))
              have hne2 := hneA
              clear K4 Bz b14 kA4 f3
              go_wp2
              have hS0 : w4.drew.cell? ⟨M, 0, none⟩ = some (.int .i64 0) ∧ w4.drew.cell? ⟨M, 1, none⟩ = some (.string ⟨#[]⟩) ∧ w4.drew.cell? ⟨M, 2, none⟩ = some (.string ⟨#[]⟩) ∧ w4.drew.cell? ⟨M, 3, none⟩ = some (.slice none 0 0) ∧ w4.drew.cell? ⟨M, 4, none⟩ = some (.slice none 0 0) ∧ w4.drew.cell? ⟨M, 5, none⟩ = some (.string ⟨#[]⟩) ∧ w4.drew.cell? ⟨M, 6, none⟩ = some (.int .i64 n.at') ∧ w4.drew.cell? ⟨wr.heap.size, 3, none⟩ = some (.int .i64 at') := ⟨o0, o1, o2, o3, o4, o5, o6, ha⟩
              have hSs := fun y0 y1 y2 y3 y4 y5 y6 => (show _ ∧ _ ∧ _ ∧ _ ∧ _ ∧ _ ∧ _ ∧ _ from ⟨set_cell7 (R := R) o0 hne1 y0 y1 y2 y3 y4 y5 y6, set_cell7 (R := R) o1 hne1 y0 y1 y2 y3 y4 y5 y6, set_cell7 (R := R) o2 hne1 y0 y1 y2 y3 y4 y5 y6, set_cell7 (R := R) o3 hne1 y0 y1 y2 y3 y4 y5 y6, set_cell7 (R := R) o4 hne1 y0 y1 y2 y3 y4 y5 y6, set_cell7 (R := R) o5 hne1 y0 y1 y2 y3 y4 y5 y6, set_cell7 (R := R) o6 hne1 y0 y1 y2 y3 y4 y5 y6, set_cell7 (R := R) ha hne2 y0 y1 y2 y3 y4 y5 y6⟩)
              refine wp_region_late (S := fun w' => w'.cell? ⟨M, 0, none⟩ = some (.int .i64 0) ∧ w'.cell? ⟨M, 1, none⟩ = some (.string ⟨#[]⟩) ∧ w'.cell? ⟨M, 2, none⟩ = some (.string ⟨#[]⟩) ∧ w'.cell? ⟨M, 3, none⟩ = some (.slice none 0 0) ∧ w'.cell? ⟨M, 4, none⟩ = some (.slice none 0 0) ∧ w'.cell? ⟨M, 5, none⟩ = some (.string ⟨#[]⟩) ∧ w'.cell? ⟨M, 6, none⟩ = some (.int .i64 n.at') ∧ w'.cell? ⟨wr.heap.size, 3, none⟩ = some (.int .i64 at')) (D := []) (by kernel_rfl) ?_
              refine anyL_take (i := 0) (oi := { dst := some 97, op := Go.Op.load 29 (Go.Operand.tmp 8), type := 29, pos := "ref.go:65", after := #[], guard := none }) (v := ?_) rfl (by decide) (by kernel_rfl) (by kernel_rfl) (by kernel_rfl) (by kernel_rfl) (fun _ _ _ h => h) (Or.inl ⟨by rfl, ?_⟩) hS0 ?_
              rotate_left
              · intro wz hSz
                obtain ⟨z0, z1, z2, z3, z4, z5, z6, z7⟩ := hSz
                go_simp
                (try with_reducible rfl)
              try simp only [Act.put, List.setIfInBounds_toArray, List.set_cons_zero, List.set_cons_succ]
              refine anyL_take (i := 1) (oi := { dst := some 98, op := Go.Op.fieldAddr 43 (Go.Operand.tmp 14) 3, type := 0, pos := "ref.go:65", after := #[{ on := 4, ground := Go.Ground.gcOnly Go.Departure.lateStores }], guard := none }) (v := ?_) rfl (by decide) (by kernel_rfl) (by kernel_rfl) (by kernel_rfl) (by kernel_rfl) (fun _ _ _ h => h) (Or.inl ⟨by rfl, ?_⟩) hS0 ?_
              rotate_left
              · intro wz hSz
                obtain ⟨z0, z1, z2, z3, z4, z5, z6, z7⟩ := hSz
                go_simp
                (try with_reducible rfl)
              try simp only [Act.put, List.setIfInBounds_toArray, List.set_cons_zero, List.set_cons_succ]
              refine anyL_take (i := 2) (oi := { dst := some 99, op := Go.Op.load 3 (Go.Operand.tmp 98), type := 3, pos := "ref.go:65", after := #[{ on := 1, ground := Go.Ground.data }, { on := 4, ground := Go.Ground.gcOnly Go.Departure.lateStores }], guard := none }) (v := ?_) rfl (by decide) (by kernel_rfl) (by kernel_rfl) (by kernel_rfl) (by kernel_rfl) (fun _ _ _ h => h) (Or.inl ⟨by rfl, ?_⟩) hS0 ?_
              rotate_left
              · intro wz hSz
                obtain ⟨z0, z1, z2, z3, z4, z5, z6, z7⟩ := hSz
                go_simp
                (try with_reducible rfl)
              try simp only [Act.put, List.setIfInBounds_toArray, List.set_cons_zero, List.set_cons_succ]
              refine anyL_ready (rs := [3]) (by kernel_rfl) (by simp) ?_
              refine AllL.cons (o := { dst := none, op := Go.Op.store 29 (Go.Operand.tmp 4) (Go.Operand.tmp 97), type := 0, pos := "ref.go:65", after := #[{ on := 0, ground := Go.Ground.data }, { on := 0, ground := Go.Ground.phase }, { on := 1, ground := Go.Ground.textOnly Go.Departure.lateStores }, { on := 2, ground := Go.Ground.textOnly Go.Departure.lateStores }], guard := none }) rfl (fun K hK => ?_) AllL.nil
              go_simp
              refine hK _ _ (hSs _ _ _ _ _ _ _) ?_
              clear hK K
              try simp only [Act.put, List.setIfInBounds_toArray, List.set_cons_zero, List.set_cons_succ]
              refine anyL_take (i := 4) (oi := { dst := some 5, op := Go.Op.assign (Go.Operand.const (Go.Value.slice none 0 0)), type := 109, pos := "ref.go:65", after := #[{ on := 3, ground := Go.Ground.chain }, { on := 0, ground := Go.Ground.phase }, { on := 1, ground := Go.Ground.textOnly Go.Departure.lateStores }, { on := 2, ground := Go.Ground.textOnly Go.Departure.lateStores }, { on := 3, ground := Go.Ground.phase }], guard := none }) (v := ?_) rfl (by decide) (by kernel_rfl) (by kernel_rfl) (by kernel_rfl) (by kernel_rfl) (fun _ _ _ h => h) (Or.inl ⟨by rfl, ?_⟩) (hSs _ _ _ _ _ _ _) ?_
              rotate_left
              · intro wz hSz
                obtain ⟨z0, z1, z2, z3, z4, z5, z6, z7⟩ := hSz
                go_simp
                (try with_reducible rfl)
              try simp only [Act.put, List.setIfInBounds_toArray, List.set_cons_zero, List.set_cons_succ]
              refine anyL_take (i := 5) (oi := { dst := some 6, op := Go.Op.assign (Go.Operand.tmp 99), type := 3, pos := "ref.go:65", after := #[{ on := 2, ground := Go.Ground.data }, { on := 4, ground := Go.Ground.chain }, { on := 0, ground := Go.Ground.phase }, { on := 1, ground := Go.Ground.phase }, { on := 2, ground := Go.Ground.phase }, { on := 3, ground := Go.Ground.phase }, { on := 4, ground := Go.Ground.phase }], guard := none }) (v := ?_) rfl (by decide) (by kernel_rfl) (by kernel_rfl) (by kernel_rfl) (by kernel_rfl) (fun _ _ _ h => h) (Or.inl ⟨by rfl, ?_⟩) (hSs _ _ _ _ _ _ _) ?_
              rotate_left
              · intro wz hSz
                obtain ⟨z0, z1, z2, z3, z4, z5, z6, z7⟩ := hSz
                go_simp
                (try with_reducible rfl)
              try simp only [Act.put, List.setIfInBounds_toArray, List.set_cons_zero, List.set_cons_succ]
              refine anyL_take (i := 6) (oi := { dst := some 7, op := Go.Op.assign (Go.Operand.const (Go.Value.int Go.IntKind.i64 13)), type := 3, pos := "ref.go:65", after := #[{ on := 5, ground := Go.Ground.chain }, { on := 0, ground := Go.Ground.phase }, { on := 1, ground := Go.Ground.phase }, { on := 2, ground := Go.Ground.phase }, { on := 3, ground := Go.Ground.phase }, { on := 4, ground := Go.Ground.phase }, { on := 5, ground := Go.Ground.phase }], guard := none }) (v := ?_) rfl (by decide) (by kernel_rfl) (by kernel_rfl) (by kernel_rfl) (by kernel_rfl) (fun _ _ _ h => h) (Or.inl ⟨by rfl, ?_⟩) (hSs _ _ _ _ _ _ _) ?_
              rotate_left
              · intro wz hSz
                obtain ⟨z0, z1, z2, z3, z4, z5, z6, z7⟩ := hSz
                go_simp
                (try with_reducible rfl)
              try simp only [Act.put, List.setIfInBounds_toArray, List.set_cons_zero, List.set_cons_succ]
              refine anyL_done (by kernel_rfl) ?_ _
              go_wp2
              refine bodyPost_ret (v := .tuple #[.agg #[.int .i64 0, .string ⟨#[]⟩, .string ⟨#[]⟩, .slice none 0 0, .slice none 0 0, .string ⟨#[]⟩, .int .i64 n.at'], .slice none 0 0, .int .i64 at', .int .i64 13]) (by simp [results, Tryd.results54, go_sem, cell_set_same, r0, r1, r2, r3, r4, r5, r6]) rfl ?_
              exact ⟨by rw [HQ.out.1]; exact (below7 HB1.out hhs _ _ _ _ _ _ _).drew, .inl ⟨_, _, _, _, _, _, _, by decide, HE.out, rfl⟩⟩
            have q1 : (d.toList == [120, 109, 108]) = false := cne e1 rfl
            by_cases e2 : d = xmlnsB
            · subst e2
              unfold xmlnsB at cD
              clear q1
              rw [if_pos (show badDecl xmlnsB va from .inr (.inl rfl))] at hst
              have hE : resP L.reverse n = (zeroN, at', 13) := by rw [HE1.out, hdc, hst]; exact if_pos (by simp)
              have HE := Lib.hid hE
              clear hE hst HE1 hdc
              go_wp2_with fail
              refine cS.mono ?_
              rintro e w3 ⟨rfl, b3⟩
              have kA3 := HKA.out.more b3
              have s0 := kA3.cell 0
              have s1 := kA3.cell 1
              have s2 := kA3.cell 2
              have s3 := kA3.cell 3
              simp only [List.getElem?_toArray, List.getElem?_cons_succ, List.getElem?_cons_zero] at s0 s1 s2 s3
              have cD3 := cD w3
              have HKA3 := Lib.hid kA3
              have HB3 := Lib.hid (HBA.out.trans (b3.mono HBA.out.size))
              clear kA3 b3 cS cD HKA HBA a0 a1 a2 a3
              go_wp2_with fail
              refine cD3.mono ?_
              rintro e w4 ⟨rfl, b4⟩
              have kA4 := HKA3.out.more b4
              have b14 := HB3.out.trans (b4.mono HB3.out.size)
              clear cD3 b4 s0 s1 s2 s3 HKA3 HB3
              have ha := kA4.cell 3
              have s2 := kA4.cell 2
              simp only [List.getElem?_toArray, List.getElem?_cons_succ, List.getElem?_cons_zero] at ha s2
              have Bz := HB.out.trans (b14.mono HB.out.size)
              have K4 := HK1.out.below Bz
              obtain ⟨⟨r0, r1, r2, r3, r4, r5, r6⟩, g0, g1, g2, g3, g4, g5, g6⟩ := K4.res.seven
              have o0 := K4.out.cell 0
              have o1 := K4.out.cell 1
              have o2 := K4.out.cell 2
              have o3 := K4.out.cell 3
              have o4 := K4.out.cell 4
              have o5 := K4.out.cell 5
              have o6 := K4.out.cell 6
              simp only [List.getElem?_toArray, List.getElem?_cons_succ, List.getElem?_cons_zero] at o0 o1 o2 o3 o4 o5 o6
              have HB1 := Lib.hid (HBx.out.trans (Bz.mono (by omega)))
              have hne2 := hneA
              clear K4 Bz b14 kA4 f3
              go_wp2
              have hS0 : w4.drew.cell? ⟨M, 0, none⟩ = some (.int .i64 0) ∧ w4.drew.cell? ⟨M, 1, none⟩ = some (.string ⟨#[]⟩) ∧ w4.drew.cell? ⟨M, 2, none⟩ = some (.string ⟨#[]⟩) ∧ w4.drew.cell? ⟨M, 3, none⟩ = some (.slice none 0 0) ∧ w4.drew.cell? ⟨M, 4, none⟩ = some (.slice none 0 0) ∧ w4.drew.cell? ⟨M, 5, none⟩ = some (.string ⟨#[]⟩) ∧ w4.drew.cell? ⟨M, 6, none⟩ = some (.int .i64 n.at') ∧ w4.drew.cell? ⟨wr.heap.size, 3, none⟩ = some (.int .i64 at') := ⟨o0, o1, o2, o3, o4, o5, o6, ha⟩
              have hSs := fun y0 y1 y2 y3 y4 y5 y6 => (show _ ∧ _ ∧ _ ∧ _ ∧ _ ∧ _ ∧ _ ∧ _ from ⟨set_cell7 (R := R) o0 hne1 y0 y1 y2 y3 y4 y5 y6, set_cell7 (R := R) o1 hne1 y0 y1 y2 y3 y4 y5 y6, set_cell7 (R := R) o2 hne1 y0 y1 y2 y3 y4 y5 y6, set_cell7 (R := R) o3 hne1 y0 y1 y2 y3 y4 y5 y6, set_cell7 (R := R) o4 hne1 y0 y1 y2 y3 y4 y5 y6, set_cell7 (R := R) o5 hne1 y0 y1 y2 y3 y4 y5 y6, set_cell7 (R := R) o6 hne1 y0 y1 y2 y3 y4 y5 y6, set_cell7 (R := R) ha hne2 y0 y1 y2 y3 y4 y5 y6⟩)
              refine wp_region_late (S := fun w' => w'.cell? ⟨M, 0, none⟩ = some (.int .i64 0) ∧ w'.cell? ⟨M, 1, none⟩ = some (.string ⟨#[]⟩) ∧ w'.cell? ⟨M, 2, none⟩ = some (.string ⟨#[]⟩) ∧ w'.cell? ⟨M, 3, none⟩ = some (.slice none 0 0) ∧ w'.cell? ⟨M, 4, none⟩ = some (.slice none 0 0) ∧ w'.cell? ⟨M, 5, none⟩ = some (.string ⟨#[]⟩) ∧ w'.cell? ⟨M, 6, none⟩ = some (.int .i64 n.at') ∧ w'.cell? ⟨wr.heap.size, 3, none⟩ = some (.int .i64 at')) (D := []) (by kernel_rfl) ?_
              refine anyL_take (i := 0) (oi := { dst := some 97, op := Go.Op.load 29 (Go.Operand.tmp 8), type := 29, pos := "ref.go:65", after := #[], guard := none }) (v := ?_) rfl (by decide) (by kernel_rfl) (by kernel_rfl) (by kernel_rfl) (by kernel_rfl) (fun _ _ _ h => h) (Or.inl ⟨by rfl, ?_⟩) hS0 ?_
              rotate_left
              · intro wz hSz
                obtain ⟨z0, z1, z2, z3, z4, z5, z6, z7⟩ := hSz
                go_simp
                (try with_reducible rfl)
              try simp only [Act.put, List.setIfInBounds_toArray, List.set_cons_zero, List.set_cons_succ]
              refine anyL_take (i := 1) (oi := { dst := some 98, op := Go.Op.fieldAddr 43 (Go.Operand.tmp 14) 3, type := 0, pos := "ref.go:65", after := #[{ on := 4, ground := Go.Ground.gcOnly Go.Departure.lateStores }], guard := none }) (v := ?_) rfl (by decide) (by kernel_rfl) (by kernel_rfl) (by kernel_rfl) (by kernel_rfl) (fun _ _ _ h => h) (Or.inl ⟨by rfl, ?_⟩) hS0 ?_
              rotate_left
              · intro wz hSz
                obtain ⟨z0, z1, z2, z3, z4, z5, z6, z7⟩ := hSz
                go_simp
                (try with_reducible rfl)
              try simp only [Act.put, List.setIfInBounds_toArray, List.set_cons_zero, List.set_cons_succ]
              refine anyL_take (i := 2) (oi := { dst := some 99, op := Go.Op.load 3 (Go.Operand.tmp 98), type := 3, pos := "ref.go:65", after := #[{ on := 1, ground := Go.Ground.data }, { on := 4, ground := Go.Ground.gcOnly Go.Departure.lateStores }], guard := none }) (v := ?_) rfl (by decide) (by kernel_rfl) (by kernel_rfl) (by kernel_rfl) (by kernel_rfl) (fun _ _ _ h => h) (Or.inl ⟨by rfl, ?_⟩) hS0 ?_
              rotate_left
              · intro wz hSz
                obtain ⟨z0, z1, z2, z3, z4, z5, z6, z7⟩ := hSz
                go_simp
                (try with_reducible rfl)
              try simp only [Act.put, List.setIfInBounds_toArray, List.set_cons_zero, List.set_cons_succ]
              refine anyL_ready (rs := [3]) (by kernel_rfl) (by simp) ?_
              refine AllL.cons (o := { dst := none, op := Go.Op.store 29 (Go.Operand.tmp 4) (Go.Operand.tmp 97), type := 0, pos := "ref.go:65", after := #[{ on := 0, ground := Go.Ground.data }, { on := 0, ground := Go.Ground.phase }, { on := 1, ground := Go.Ground.textOnly Go.Departure.lateStores }, { on := 2, ground := Go.Ground.textOnly Go.Departure.lateStores }], guard := none }) rfl (fun K hK => ?_) AllL.nil
              go_simp
              refine hK _ _ (hSs _ _ _ _ _ _ _) ?_
              clear hK K
              try simp only [Act.put, List.setIfInBounds_toArray, List.set_cons_zero, List.set_cons_succ]
              refine anyL_take (i := 4) (oi := { dst := some 5, op := Go.Op.assign (Go.Operand.const (Go.Value.slice none 0 0)), type := 109, pos := "ref.go:65", after := #[{ on := 3, ground := Go.Ground.chain }, { on := 0, ground := Go.Ground.phase }, { on := 1, ground := Go.Ground.textOnly Go.Departure.lateStores }, { on := 2, ground := Go.Ground.textOnly Go.Departure.lateStores }, { on := 3, ground := Go.Ground.phase }], guard := none }) (v := ?_) rfl (by decide) (by kernel_rfl) (by kernel_rfl) (by kernel_rfl) (by kernel_rfl) (fun _ _ _ h => h) (Or.inl ⟨by rfl, ?_⟩) (hSs _ _ _ _ _ _ _) ?_
              rotate_left
              · intro wz hSz
                obtain ⟨z0, z1, z2, z3, z4, z5, z6, z7⟩ := hSz
                go_simp
                (try with_reducible rfl)
              try simp only [Act.put, List.setIfInBounds_toArray, List.set_cons_zero, List.set_cons_succ]
              refine anyL_take (i := 5) (oi := { dst := some 6, op := Go.Op.assign (Go.Operand.tmp 99), type := 3, pos := "ref.go:65", after := #[{ on := 2, ground := Go.Ground.data }, { on := 4, ground := Go.Ground.chain }, { on := 0, ground := Go.Ground.phase }, { on := 1, ground := Go.Ground.phase }, { on := 2, ground := Go.Ground.phase }, { on := 3, ground := Go.Ground.phase }, { on := 4, ground := Go.Ground.phase }], guard := none }) (v := ?_) rfl (by decide) (by kernel_rfl) (by kernel_rfl) (by kernel_rfl) (by kernel_rfl) (fun _ _ _ h => h) (Or.inl ⟨by rfl, ?_⟩) (hSs _ _ _ _ _ _ _) ?_
              rotate_left
              · intro wz hSz
                obtain ⟨z0, z1, z2, z3, z4, z5, z6, z7⟩ := hSz
                go_simp
                (try with_reducible rfl)
              try simp only [Act.put, List.setIfInBounds_toArray, List.set_cons_zero, List.set_cons_succ]
              refine anyL_take (i := 6) (oi := { dst := some 7, op := Go.Op.assign (Go.Operand.const (Go.Value.int Go.IntKind.i64 13)), type := 3, pos := "ref.go:65", after := #[{ on := 5, ground := Go.Ground.chain }, { on := 0, ground := Go.Ground.phase }, { on := 1, ground := Go.Ground.phase }, { on := 2, ground := Go.Ground.phase }, { on := 3, ground := Go.Ground.phase }, { on := 4, ground := Go.Ground.phase }, { on := 5, ground := Go.Ground.phase }], guard := none }) (v := ?_) rfl (by decide) (by kernel_rfl) (by kernel_rfl) (by kernel_rfl) (by kernel_rfl) (fun _ _ _ h => h) (Or.inl ⟨by rfl, ?_⟩) (hSs _ _ _ _ _ _ _) ?_
              rotate_left
              · intro wz hSz
                obtain ⟨z0, z1, z2, z3, z4, z5, z6, z7⟩ := hSz
                go_simp
                (try with_reducible rfl)
              try simp only [Act.put, List.setIfInBounds_toArray, List.set_cons_zero, List.set_cons_succ]
              refine anyL_done (by kernel_rfl) ?_ _
              go_wp2
              refine bodyPost_ret (v := .tuple #[.agg #[.int .i64 0, .string ⟨#[]⟩, .string ⟨#[]⟩, .slice none 0 0, .slice none 0 0, .string ⟨#[]⟩, .int .i64 n.at'], .slice none 0 0, .int .i64 at', .int .i64 13]) (by simp [results, Tryd.results54, go_sem, cell_set_same, r0, r1, r2, r3, r4, r5, r6]) rfl ?_
              exact ⟨by rw [HQ.out.1]; exact (below7 HB1.out hhs _ _ _ _ _ _ _).drew, .inl ⟨_, _, _, _, _, _, _, by decide, HE.out, rfl⟩⟩
            have q2 : (d.toList == [120, 109, 108, 110, 115]) = false := cne e2 rfl
            by_cases e3 : d = noB
            · subst e3
              unfold noB at cD
              clear q1 q2
              rw [if_neg (fun h => by rcases h with h | h | h; exact e1 h; exact e2 h; exact h.1 rfl)] at hst
              have hrv : (D ++ [(noB, va)]).reverse = (noB, va) :: D.reverse := by simp
              have HN := Lib.hid (hdc.trans (hst.trans (by rw [hrv])) : declsP L.reverse n.al = declsP (D ++ [(noB, va)]).reverse (n.al.drop (i + 1)))
              clear hst hrv hdc
              go_wp2_with fail
              refine cS.mono ?_
              rintro e w3 ⟨rfl, b3⟩
              have kA3 := HKA.out.more b3
              have s0 := kA3.cell 0
              have s1 := kA3.cell 1
              have s2 := kA3.cell 2
              have s3 := kA3.cell 3
              simp only [List.getElem?_toArray, List.getElem?_cons_succ, List.getElem?_cons_zero] at s0 s1 s2 s3
              have cD3 := cD w3
              have HKA3 := Lib.hid kA3
              have HB3 := Lib.hid (HBA.out.trans (b3.mono HBA.out.size))
              clear kA3 b3 cS cD HKA HBA a0 a1 a2 a3
              go_wp2_with fail
              refine cD3.mono ?_
              rintro e w4 ⟨rfl, b4⟩
              have kA4 := HKA3.out.more b4
              have b14 := HB3.out.trans (b4.mono HB3.out.size)
              clear cD3 b4 s0 s1 s2 s3 HKA3 HB3
              have s2 := kA4.cell 2
              simp only [List.getElem?_toArray, List.getElem?_cons_succ, List.getElem?_cons_zero] at s2
              have hrow4 := row_below HROW.out b14
              have B4 := Lib.hid (HB.out.trans (b14.mono HB.out.size))
              have hz4 := b14.size
              clear b14 kA4
              go_wp2_with (at_builtin; refine wpList_append_own _ rfl _ _ 109 rfl w1.heap.size 137 i0 (.agg #[.string ⟨#[]⟩, .string ⟨#[]⟩]) 2 32 Tryd.underlying109 hi0 hi1 hi3 hi4 rfl (by decide) (.slice pd D.length cd) D.length (bdsCells D) rfl (hrow4.alloc _) ⟨w4.heap.size, 0, none⟩ 1 1 (bdCells (noB, va)) rfl rfl (bd_new w4 _ (noB, va)) (bd_one _) (by unfold maxLen; omega) (by omega) (by simp; omega) ?_)
              intro v' w5 hown5 hgr5 _
              obtain ⟨A', c', rfl⟩ := own_form hown5
              have hnx : w5.ownsRow w1.heap.size 137 2 (.slice A' (D ++ [(noB, va)]).length c') (D ++ [(noB, va)]).length (bdsCells (D ++ [(noB, va)])) := by
                rw [List.length_append, List.length_singleton, bdsCells_app, show bdsCells [((noB, va) : Bd)] = bdCells (noB, va) by simp [bdsCells]]
                exact hown5
              have b5 : Below w1.heap.size w1 w5 := (B4.out.alloc (by omega) _).grown hgr5 (by simp; omega) (fun k hk => (row_kind hrow4 k hk).1)
              have HNX := Lib.hid hnx
              have HB5 := Lib.hid b5
              clear hnx hown5 hgr5 hrow4 b5
              go_wp2
              go_roundw
              case rel => exact ⟨i + 1, D ++ [(noB, va)], A', c', by omega, by go_num, by rw [List.length_append]; rfl, by rw [List.length_append, List.length_singleton]; omega, HN.out, HNX.out, HB5.out⟩
              case measure => simp [intOf]; omega
            have q3 : d.toList.isEmpty = false := by cases hl : d.toList with | nil => exact absurd (kstr_ext (by rw [← blist, hl]; rfl)) e3 | cons x r => rfl
            by_cases e4 : va = noB
            · have q4 : (va.toList == []) = true := by rw [e4, blist]; rfl
              have q5 : va.toList.isEmpty = true := by rw [e4, blist]; rfl
              rw [if_pos (show badDecl d va from .inr (.inr ⟨e3, e4⟩))] at hst
              have hE : resP L.reverse n = (zeroN, at', 13) := by rw [HE1.out, hdc, hst]; exact if_pos (by simp)
              have HE := Lib.hid hE
              clear hE hst HE1 hdc e4
              go_wp2_with fail
              refine cS.mono ?_
              rintro e w3 ⟨rfl, b3⟩
              have kA3 := HKA.out.more b3
              have s0 := kA3.cell 0
              have s1 := kA3.cell 1
              have s2 := kA3.cell 2
              have s3 := kA3.cell 3
              simp only [List.getElem?_toArray, List.getElem?_cons_succ, List.getElem?_cons_zero] at s0 s1 s2 s3
              have cD3 := cD w3
              have HKA3 := Lib.hid kA3
              have HB3 := Lib.hid (HBA.out.trans (b3.mono HBA.out.size))
              clear kA3 b3 cS cD HKA HBA a0 a1 a2 a3
              go_wp2_with fail
              refine cD3.mono ?_
              rintro e w4 ⟨rfl, b4⟩
              have kA4 := HKA3.out.more b4
              have b14 := HB3.out.trans (b4.mono HB3.out.size)
              clear cD3 b4 s0 s1 s2 s3 HKA3 HB3
              have ha := kA4.cell 3
              have s2 := kA4.cell 2
              simp only [List.getElem?_toArray, List.getElem?_cons_succ, List.getElem?_cons_zero] at ha s2
              have Bz := HB.out.trans (b14.mono HB.out.size)
              have K4 := HK1.out.below Bz
              obtain ⟨⟨r0, r1, r2, r3, r4, r5, r6⟩, g0, g1, g2, g3, g4, g5, g6⟩ := K4.res.seven
              have o0 := K4.out.cell 0
              have o1 := K4.out.cell 1
              have o2 := K4.out.cell 2
              have o3 := K4.out.cell 3
              have o4 := K4.out.cell 4
              have o5 := K4.out.cell 5
              have o6 := K4.out.cell 6
              simp only [List.getElem?_toArray, List.getElem?_cons_succ, List.getElem?_cons_zero] at o0 o1 o2 o3 o4 o5 o6
              have HB1 := Lib.hid (HBx.out.trans (Bz.mono (by omega)))
              have hne2 := hneA
              clear K4 Bz b14 kA4 f3
              go_wp2
              have hS0 : w4.drew.cell? ⟨M, 0, none⟩ = some (.int .i64 0) ∧ w4.drew.cell? ⟨M, 1, none⟩ = some (.string ⟨#[]⟩) ∧ w4.drew.cell? ⟨M, 2, none⟩ = some (.string ⟨#[]⟩) ∧ w4.drew.cell? ⟨M, 3, none⟩ = some (.slice none 0 0) ∧ w4.drew.cell? ⟨M, 4, none⟩ = some (.slice none 0 0) ∧ w4.drew.cell? ⟨M, 5, none⟩ = some (.string ⟨#[]⟩) ∧ w4.drew.cell? ⟨M, 6, none⟩ = some (.int .i64 n.at') ∧ w4.drew.cell? ⟨wr.heap.size, 3, none⟩ = some (.int .i64 at') := ⟨o0, o1, o2, o3, o4, o5, o6, ha⟩
              have hSs := fun y0 y1 y2 y3 y4 y5 y6 => (show _ ∧ _ ∧ _ ∧ _ ∧ _ ∧ _ ∧ _ ∧ _ from ⟨set_cell7 (R := R) o0 hne1 y0 y1 y2 y3 y4 y5 y6, set_cell7 (R := R) o1 hne1 y0 y1 y2 y3 y4 y5 y6, set_cell7 (R := R) o2 hne1 y0 y1 y2 y3 y4 y5 y6, set_cell7 (R := R) o3 hne1 y0 y1 y2 y3 y4 y5 y6, set_cell7 (R := R) o4 hne1 y0 y1 y2 y3 y4 y5 y6, set_cell7 (R := R) o5 hne1 y0 y1 y2 y3 y4 y5 y6, set_cell7 (R := R) o6 hne1 y0 y1 y2 y3 y4 y5 y6, set_cell7 (R := R) ha hne2 y0 y1 y2 y3 y4 y5 y6⟩)
              refine wp_region_late (S := fun w' => w'.cell? ⟨M, 0, none⟩ = some (.int .i64 0) ∧ w'.cell? ⟨M, 1, none⟩ = some (.string ⟨#[]⟩) ∧ w'.cell? ⟨M, 2, none⟩ = some (.string ⟨#[]⟩) ∧ w'.cell? ⟨M, 3, none⟩ = some (.slice none 0 0) ∧ w'.cell? ⟨M, 4, none⟩ = some (.slice none 0 0) ∧ w'.cell? ⟨M, 5, none⟩ = some (.string ⟨#[]⟩) ∧ w'.cell? ⟨M, 6, none⟩ = some (.int .i64 n.at') ∧ w'.cell? ⟨wr.heap.size, 3, none⟩ = some (.int .i64 at')) (D := []) (by kernel_rfl) ?_
              refine anyL_take (i := 0) (oi := { dst := some 97, op := Go.Op.load 29 (Go.Operand.tmp 8), type := 29, pos := "ref.go:65", after := #[], guard := none }) (v := ?_) rfl (by decide) (by kernel_rfl) (by kernel_rfl) (by kernel_rfl) (by kernel_rfl) (fun _ _ _ h => h) (Or.inl ⟨by rfl, ?_⟩) hS0 ?_
              rotate_left
              · intro wz hSz
                obtain ⟨z0, z1, z2, z3, z4, z5, z6, z7⟩ := hSz
                go_simp
                (try with_reducible rfl)
              try simp only [Act.put, List.setIfInBounds_toArray, List.set_cons_zero, List.set_cons_succ]
              refine anyL_take (i := 1) (oi := { dst := some 98, op := Go.Op.fieldAddr 43 (Go.Operand.tmp 14) 3, type := 0, pos := "ref.go:65", after := #[{ on := 4, ground := Go.Ground.gcOnly Go.Departure.lateStores }], guard := none }) (v := ?_) rfl (by decide) (by kernel_rfl) (by kernel_rfl) (by kernel_rfl) (by kernel_rfl) (fun _ _ _ h => h) (Or.inl ⟨by rfl, ?_⟩) hS0 ?_
              rotate_left
              · intro wz hSz
                obtain ⟨z0, z1, z2, z3, z4, z5, z6, z7⟩ := hSz
                go_simp
                (try with_reducible rfl)
              try simp only [Act.put, List.setIfInBounds_toArray, List.set_cons_zero, List.set_cons_succ]
              refine anyL_take (i := 2) (oi := { dst := some 99, op := Go.Op.load 3 (Go.Operand.tmp 98), type := 3, pos := "ref.go:65", after := #[{ on := 1, ground := Go.Ground.data }, { on := 4, ground := Go.Ground.gcOnly Go.Departure.lateStores }], guard := none }) (v := ?_) rfl (by decide) (by kernel_rfl) (by kernel_rfl) (by kernel_rfl) (by kernel_rfl) (fun _ _ _ h => h) (Or.inl ⟨by rfl, ?_⟩) hS0 ?_
              rotate_left
              · intro wz hSz
                obtain ⟨z0, z1, z2, z3, z4, z5, z6, z7⟩ := hSz
                go_simp
                (try with_reducible rfl)
              try simp only [Act.put, List.setIfInBounds_toArray, List.set_cons_zero, List.set_cons_succ]
              refine anyL_ready (rs := [3]) (by kernel_rfl) (by simp) ?_
              refine AllL.cons (o := { dst := none, op := Go.Op.store 29 (Go.Operand.tmp 4) (Go.Operand.tmp 97), type := 0, pos := "ref.go:65", after := #[{ on := 0, ground := Go.Ground.data }, { on := 0, ground := Go.Ground.phase }, { on := 1, ground := Go.Ground.textOnly Go.Departure.lateStores }, { on := 2, ground := Go.Ground.textOnly Go.Departure.lateStores }], guard := none }) rfl (fun K hK => ?_) AllL.nil
              go_simp
              refine hK _ _ (hSs _ _ _ _ _ _ _) ?_
              clear hK K
              try simp only [Act.put, List.setIfInBounds_toArray, List.set_cons_zero, List.set_cons_succ]
              refine anyL_take (i := 4) (oi := { dst := some 5, op := Go.Op.assign (Go.Operand.const (Go.Value.slice none 0 0)), type := 109, pos := "ref.go:65", after := #[{ on := 3, ground := Go.Ground.chain }, { on := 0, ground := Go.Ground.phase }, { on := 1, ground := Go.Ground.textOnly Go.Departure.lateStores }, { on := 2, ground := Go.Ground.textOnly Go.Departure.lateStores }, { on := 3, ground := Go.Ground.phase }], guard := none }) (v := ?_) rfl (by decide) (by kernel_rfl) (by kernel_rfl) (by kernel_rfl) (by kernel_rfl) (fun _ _ _ h => h) (Or.inl ⟨by rfl, ?_⟩) (hSs _ _ _ _ _ _ _) ?_
              rotate_left
              · intro wz hSz
                obtain ⟨z0, z1, z2, z3, z4, z5, z6, z7⟩ := hSz
                go_simp
                (try with_reducible rfl)
              try simp only [Act.put, List.setIfInBounds_toArray, List.set_cons_zero, List.set_cons_succ]
              refine anyL_take (i := 5) (oi := { dst := some 6, op := Go.Op.assign (Go.Operand.tmp 99), type := 3, pos := "ref.go:65", after := #[{ on := 2, ground := Go.Ground.data }, { on := 4, ground := Go.Ground.chain }, { on := 0, ground := Go.Ground.phase }, { on := 1, ground := Go.Ground.phase }, { on := 2, ground := Go.Ground.phase }, { on := 3, ground := Go.Ground.phase }, { on := 4, ground := Go.Ground.phase }], guard := none }) (v := ?_) rfl (by decide) (by kernel_rfl) (by kernel_rfl) (by kernel_rfl) (by kernel_rfl) (fun _ _ _ h => h) (Or.inl ⟨by rfl, ?_⟩) (hSs _ _ _ _ _ _ _) ?_
              rotate_left
              · intro wz hSz
                obtain ⟨z0, z1, z2, z3, z4, z5, z6, z7⟩ := hSz
                go_simp
                (try with_reducible rfl)
              try simp only [Act.put, List.setIfInBounds_toArray, List.set_cons_zero, List.set_cons_succ]
              refine anyL_take (i := 6) (oi := { dst := some 7, op := Go.Op.assign (Go.Operand.const (Go.Value.int Go.IntKind.i64 13)), type := 3, pos := "ref.go:65", after := #[{ on := 5, ground := Go.Ground.chain }, { on := 0, ground := Go.Ground.phase }, { on := 1, ground := Go.Ground.phase }, { on := 2, ground := Go.Ground.phase }, { on := 3, ground := Go.Ground.phase }, { on := 4, ground := Go.Ground.phase }, { on := 5, ground := Go.Ground.phase }], guard := none }) (v := ?_) rfl (by decide) (by kernel_rfl) (by kernel_rfl) (by kernel_rfl) (by kernel_rfl) (fun _ _ _ h => h) (Or.inl ⟨by rfl, ?_⟩) (hSs _ _ _ _ _ _ _) ?_
              rotate_left
              · intro wz hSz
                obtain ⟨z0, z1, z2, z3, z4, z5, z6, z7⟩ := hSz
                go_simp
                (try with_reducible rfl)
              try simp only [Act.put, List.setIfInBounds_toArray, List.set_cons_zero, List.set_cons_succ]
              refine anyL_done (by kernel_rfl) ?_ _
              go_wp2
              refine bodyPost_ret (v := .tuple #[.agg #[.int .i64 0, .string ⟨#[]⟩, .string ⟨#[]⟩, .slice none 0 0, .slice none 0 0, .string ⟨#[]⟩, .int .i64 n.at'], .slice none 0 0, .int .i64 at', .int .i64 13]) (by simp [results, Tryd.results54, go_sem, cell_set_same, r0, r1, r2, r3, r4, r5, r6]) rfl ?_
              exact ⟨by rw [HQ.out.1]; exact (below7 HB1.out hhs _ _ _ _ _ _ _).drew, .inl ⟨_, _, _, _, _, _, _, by decide, HE.out, rfl⟩⟩
            · have q4 : (va.toList == []) = false := cne e4 rfl
              have q5 : va.toList.isEmpty = false := by cases hl : va.toList with | nil => exact absurd (kstr_ext (by rw [← blist, hl]; rfl)) e4 | cons x r => rfl
              rw [if_neg (fun h => by rcases h with h | h | h; exact e1 h; exact e2 h; exact e4 h.2)] at hst
              have hrv : (D ++ [(d, va)]).reverse = (d, va) :: D.reverse := by simp
              have HN := Lib.hid (hdc.trans (hst.trans (by rw [hrv])) : declsP L.reverse n.al = declsP (D ++ [(d, va)]).reverse (n.al.drop (i + 1)))
              clear hst hrv hdc
              go_wp2_with fail
              refine cS.mono ?_
              rintro e w3 ⟨rfl, b3⟩
              have kA3 := HKA.out.more b3
              have s0 := kA3.cell 0
              have s1 := kA3.cell 1
              have s2 := kA3.cell 2
              have s3 := kA3.cell 3
              simp only [List.getElem?_toArray, List.getElem?_cons_succ, List.getElem?_cons_zero] at s0 s1 s2 s3
              have cD3 := cD w3
              have HKA3 := Lib.hid kA3
              have HB3 := Lib.hid (HBA.out.trans (b3.mono HBA.out.size))
              clear kA3 b3 cS cD HKA HBA a0 a1 a2 a3
              go_wp2_with fail
              refine cD3.mono ?_
              rintro e w4 ⟨rfl, b4⟩
              have kA4 := HKA3.out.more b4
              have b14 := HB3.out.trans (b4.mono HB3.out.size)
              clear cD3 b4 s0 s1 s2 s3 HKA3 HB3
              have s2 := kA4.cell 2
              simp only [List.getElem?_toArray, List.getElem?_cons_succ, List.getElem?_cons_zero] at s2
              have hrow4 := row_below HROW.out b14
              have B4 := Lib.hid (HB.out.trans (b14.mono HB.out.size))
              have hz4 := b14.size
              clear b14 kA4
              go_wp2_with (at_builtin; refine wpList_append_own _ rfl _ _ 109 rfl w1.heap.size 137 i0 (.agg #[.string ⟨#[]⟩, .string ⟨#[]⟩]) 2 32 Tryd.underlying109 hi0 hi1 hi3 hi4 rfl (by decide) (.slice pd D.length cd) D.length (bdsCells D) rfl (hrow4.alloc _) ⟨w4.heap.size, 0, none⟩ 1 1 (bdCells (d, va)) rfl rfl (bd_new w4 _ (d, va)) (bd_one _) (by unfold maxLen; omega) (by omega) (by simp; omega) ?_)
              intro v' w5 hown5 hgr5 _
              obtain ⟨A', c', rfl⟩ := own_form hown5
              have hnx : w5.ownsRow w1.heap.size 137 2 (.slice A' (D ++ [(d, va)]).length c') (D ++ [(d, va)]).length (bdsCells (D ++ [(d, va)])) := by
                rw [List.length_append, List.length_singleton, bdsCells_app, show bdsCells [((d, va) : Bd)] = bdCells (d, va) by simp [bdsCells]]
                exact hown5
              have b5 : Below w1.heap.size w1 w5 := (B4.out.alloc (by omega) _).grown hgr5 (by simp; omega) (fun k hk => (row_kind hrow4 k hk).1)
              have HNX := Lib.hid hnx
              have HB5 := Lib.hid b5
              clear hnx hown5 hgr5 hrow4 b5
              go_wp2
              go_roundw
              case rel => exact ⟨i + 1, D ++ [(d, va)], A', c', by omega, by go_num, by rw [List.length_append]; rfl, by rw [List.length_append, List.length_singleton]; omega, HN.out, HNX.out, HB5.out⟩
              case measure => simp [intOf]; omega
      · obtain rfl : i = n.al.length := by omega
        have hiz : ¬ (n.al.length : Int) < (n.al.length : Int) := by omega
        rw [List.drop_length, declsP] at hdc
        have hE2 := HE1.out
        rw [hdc, if_neg (by simp)] at hE2
        simp only at hE2
        have o1 := Kr.out.cell 1
        have o2 := Kr.out.cell 2
        simp only [List.getElem?_toArray, List.getElem?_cons_succ, List.getElem?_cons_zero] at o1 o2
        have q1 := Kr.out.fr 1
        have q2 := Kr.out.fr 2
        have kB := Kr.out.set 2 (.string l)
        have hMlt := Kr.out.lt
        have KW : Keep M wr (wr.setCell ⟨M, 2, none⟩ (.string l)) := (Keep.refl M wr).set 2 _
        have cL := nref_lookup D p pd cd w1.heap.size (wr.setCell ⟨M, 2, none⟩ (.string l)) (KW.row hrow (by omega)) (by omega)
        have o1' : (wr.setCell ⟨M, 2, none⟩ (.string l)).cell? ⟨M, 1, none⟩ = some (.string ⟨#[]⟩) := kB.cell 1
        have q1' : (wr.setCell ⟨M, 2, none⟩ (.string l)).frozen? ⟨M, 1, none⟩ = false := kB.fr 1
        have hX : ∀ s : ByteArray, HB n pa ca pk ck hs R M s l (.slice none 0 0) ((wr.setCell ⟨M, 2, none⟩ (.string l)).setCell ⟨M, 1, none⟩ (.string s)) ∧ Below hs w ((wr.setCell ⟨M, 2, none⟩ (.string l)).setCell ⟨M, 1, none⟩ (.string s)) ∧ Keep M wr ((wr.setCell ⟨M, 2, none⟩ (.string l)).setCell ⟨M, 1, none⟩ (.string s)) := fun s =>
          ⟨⟨(Kr.nod.own (q := ⟨M, 2, none⟩) (Ne.symm hne3) _).own (q := ⟨M, 1, none⟩) (Ne.symm hne3) _, (Kr.res.own (q := ⟨M, 2, none⟩) hne1 _).own (q := ⟨M, 1, none⟩) hne1 _, (Kr.out.set 2 (.string l)).set 1 (.string s)⟩, (Bw.setCell (p := ⟨M, 2, none⟩) hlo _).setCell (p := ⟨M, 1, none⟩) hlo _, KW.set 1 _⟩
        have HX := Lib.hid hX
        have HROW := Lib.hid hrow
        have hwz : wr.heap.size = (wr.setCell ⟨M, 2, none⟩ (.string l)).heap.size := by simp [World.setCell]
        clear HE1 hdc Kr Bw hb hrow kB hX KW
        cases hlk : lookP D.reverse p with
        | none =>
          rw [hlk] at cL hE2
          simp only [Option.getD_none, Option.isSome_none] at cL
          unfold noB at cL
          have HE : Hid (resP L.reverse n = (zeroN, n.at', 13)) := Lib.hid hE2
          clear hlk hE2
          obtain ⟨wx, hwx⟩ : ∃ wx, wx = (wr.setCell ⟨M, 2, none⟩ (.string l)).setCell ⟨M, 1, none⟩ (.string ⟨#[]⟩) := ⟨_, rfl⟩
          have Kx := (HX.out ⟨#[]⟩).1
          have Bx := (HX.out ⟨#[]⟩).2.1
          rw [← hwx] at Kx Bx
          go_wp2_with fail
          refine cL.mono ?_
          rintro e w3 ⟨rfl, rfl⟩
          clear cL
          go_upto_region 18 with fail
          simp only [← hwx]
          have ha := Kx.nod.cell 6
          simp only [List.getElem?_toArray, List.getElem?_cons_succ, List.getElem?_cons_zero] at ha
          clear o1 o2 q1 q2 o1' q1' hwx f3
          obtain ⟨⟨r0, r1, r2, r3, r4, r5, r6⟩, g0, g1, g2, g3, g4, g5, g6⟩ := Kx.res.seven
          have o0 := Kx.out.cell 0
          have o1 := Kx.out.cell 1
          have o2 := Kx.out.cell 2
          have o3 := Kx.out.cell 3
          have o4 := Kx.out.cell 4
          have o5 := Kx.out.cell 5
          have o6 := Kx.out.cell 6
          simp only [List.getElem?_toArray, List.getElem?_cons_succ, List.getElem?_cons_zero] at o0 o1 o2 o3 o4 o5 o6
          have HB1 := Lib.hid Bx
          clear Kx Bx HX HROW
          go_wp2
          have hS0 : wx.drew.cell? ⟨M, 0, none⟩ = some (.int .i64 0) ∧ wx.drew.cell? ⟨M, 1, none⟩ = some (.string ⟨#[]⟩) ∧ wx.drew.cell? ⟨M, 2, none⟩ = some (.string l) ∧ wx.drew.cell? ⟨M, 3, none⟩ = some (.slice none 0 0) ∧ wx.drew.cell? ⟨M, 4, none⟩ = some (.slice none 0 0) ∧ wx.drew.cell? ⟨M, 5, none⟩ = some (.string ⟨#[]⟩) ∧ wx.drew.cell? ⟨M, 6, none⟩ = some (.int .i64 n.at') ∧ wx.drew.cell? ⟨hs, 6, none⟩ = some (.int .i64 n.at') := ⟨o0, o1, o2, o3, o4, o5, o6, ha⟩
          have hSs := fun y0 y1 y2 y3 y4 y5 y6 => (show _ ∧ _ ∧ _ ∧ _ ∧ _ ∧ _ ∧ _ ∧ _ from ⟨set_cell7 (R := R) o0 hne1 y0 y1 y2 y3 y4 y5 y6, set_cell7 (R := R) o1 hne1 y0 y1 y2 y3 y4 y5 y6, set_cell7 (R := R) o2 hne1 y0 y1 y2 y3 y4 y5 y6, set_cell7 (R := R) o3 hne1 y0 y1 y2 y3 y4 y5 y6, set_cell7 (R := R) o4 hne1 y0 y1 y2 y3 y4 y5 y6, set_cell7 (R := R) o5 hne1 y0 y1 y2 y3 y4 y5 y6, set_cell7 (R := R) o6 hne1 y0 y1 y2 y3 y4 y5 y6, set_cell7 (R := R) ha hne2 y0 y1 y2 y3 y4 y5 y6⟩)
          refine wp_region_late (S := fun w' => w'.cell? ⟨M, 0, none⟩ = some (.int .i64 0) ∧ w'.cell? ⟨M, 1, none⟩ = some (.string ⟨#[]⟩) ∧ w'.cell? ⟨M, 2, none⟩ = some (.string l) ∧ w'.cell? ⟨M, 3, none⟩ = some (.slice none 0 0) ∧ w'.cell? ⟨M, 4, none⟩ = some (.slice none 0 0) ∧ w'.cell? ⟨M, 5, none⟩ = some (.string ⟨#[]⟩) ∧ w'.cell? ⟨M, 6, none⟩ = some (.int .i64 n.at') ∧ w'.cell? ⟨hs, 6, none⟩ = some (.int .i64 n.at')) (D := []) (by kernel_rfl) ?_
          refine anyL_take (i := 0) (oi := { dst := some 119, op := Go.Op.load 29 (Go.Operand.tmp 8), type := 29, pos := "ref.go:74", after := #[], guard := none }) (v := ?_) rfl (by decide) (by kernel_rfl) (by kernel_rfl) (by kernel_rfl) (by kernel_rfl) (fun _ _ _ h => h) (Or.inl ⟨by rfl, ?_⟩) hS0 ?_
          rotate_left
          · intro wz hSz
            obtain ⟨z0, z1, z2, z3, z4, z5, z6, z7⟩ := hSz
            go_simp
            (try with_reducible rfl)
          try simp only [Act.put, List.setIfInBounds_toArray, List.set_cons_zero, List.set_cons_succ]
          refine anyL_take (i := 1) (oi := { dst := some 120, op := Go.Op.fieldAddr 29 (Go.Operand.tmp 2) 6, type := 0, pos := "ref.go:74", after := #[{ on := 4, ground := Go.Ground.gcOnly Go.Departure.lateStores }], guard := none }) (v := ?_) rfl (by decide) (by kernel_rfl) (by kernel_rfl) (by kernel_rfl) (by kernel_rfl) (fun _ _ _ h => h) (Or.inl ⟨by rfl, ?_⟩) hS0 ?_
          rotate_left
          · intro wz hSz
            obtain ⟨z0, z1, z2, z3, z4, z5, z6, z7⟩ := hSz
            go_simp
            (try with_reducible rfl)
          try simp only [Act.put, List.setIfInBounds_toArray, List.set_cons_zero, List.set_cons_succ]
          refine anyL_take (i := 2) (oi := { dst := some 121, op := Go.Op.load 3 (Go.Operand.tmp 120), type := 3, pos := "ref.go:74", after := #[{ on := 1, ground := Go.Ground.data }, { on := 4, ground := Go.Ground.gcOnly Go.Departure.lateStores }], guard := none }) (v := ?_) rfl (by decide) (by kernel_rfl) (by kernel_rfl) (by kernel_rfl) (by kernel_rfl) (fun _ _ _ h => h) (Or.inl ⟨by rfl, ?_⟩) hS0 ?_
          rotate_left
          · intro wz hSz
            obtain ⟨z0, z1, z2, z3, z4, z5, z6, z7⟩ := hSz
            go_simp
            (try with_reducible rfl)
          try simp only [Act.put, List.setIfInBounds_toArray, List.set_cons_zero, List.set_cons_succ]
          refine anyL_ready (rs := [3]) (by kernel_rfl) (by simp) ?_
          refine AllL.cons (o := { dst := none, op := Go.Op.store 29 (Go.Operand.tmp 4) (Go.Operand.tmp 119), type := 0, pos := "ref.go:74", after := #[{ on := 0, ground := Go.Ground.data }, { on := 0, ground := Go.Ground.phase }, { on := 1, ground := Go.Ground.textOnly Go.Departure.lateStores }, { on := 2, ground := Go.Ground.textOnly Go.Departure.lateStores }], guard := none }) rfl (fun K hK => ?_) AllL.nil
          go_simp
          refine hK _ _ (hSs _ _ _ _ _ _ _) ?_
          clear hK K
          try simp only [Act.put, List.setIfInBounds_toArray, List.set_cons_zero, List.set_cons_succ]
          refine anyL_take (i := 4) (oi := { dst := some 5, op := Go.Op.assign (Go.Operand.const (Go.Value.slice none 0 0)), type := 109, pos := "ref.go:74", after := #[{ on := 3, ground := Go.Ground.chain }, { on := 0, ground := Go.Ground.phase }, { on := 1, ground := Go.Ground.textOnly Go.Departure.lateStores }, { on := 2, ground := Go.Ground.textOnly Go.Departure.lateStores }, { on := 3, ground := Go.Ground.phase }], guard := none }) (v := ?_) rfl (by decide) (by kernel_rfl) (by kernel_rfl) (by kernel_rfl) (by kernel_rfl) (fun _ _ _ h => h) (Or.inl ⟨by rfl, ?_⟩) (hSs _ _ _ _ _ _ _) ?_
          rotate_left
          · intro wz hSz
            obtain ⟨z0, z1, z2, z3, z4, z5, z6, z7⟩ := hSz
            go_simp
            (try with_reducible rfl)
          try simp only [Act.put, List.setIfInBounds_toArray, List.set_cons_zero, List.set_cons_succ]
          refine anyL_take (i := 5) (oi := { dst := some 6, op := Go.Op.assign (Go.Operand.tmp 121), type := 3, pos := "ref.go:74", after := #[{ on := 2, ground := Go.Ground.data }, { on := 4, ground := Go.Ground.chain }, { on := 0, ground := Go.Ground.phase }, { on := 1, ground := Go.Ground.phase }, { on := 2, ground := Go.Ground.phase }, { on := 3, ground := Go.Ground.phase }, { on := 4, ground := Go.Ground.phase }], guard := none }) (v := ?_) rfl (by decide) (by kernel_rfl) (by kernel_rfl) (by kernel_rfl) (by kernel_rfl) (fun _ _ _ h => h) (Or.inl ⟨by rfl, ?_⟩) (hSs _ _ _ _ _ _ _) ?_
          rotate_left
          · intro wz hSz
            obtain ⟨z0, z1, z2, z3, z4, z5, z6, z7⟩ := hSz
            go_simp
            (try with_reducible rfl)
          try simp only [Act.put, List.setIfInBounds_toArray, List.set_cons_zero, List.set_cons_succ]
          refine anyL_take (i := 6) (oi := { dst := some 7, op := Go.Op.assign (Go.Operand.const (Go.Value.int Go.IntKind.i64 13)), type := 3, pos := "ref.go:74", after := #[{ on := 5, ground := Go.Ground.chain }, { on := 0, ground := Go.Ground.phase }, { on := 1, ground := Go.Ground.phase }, { on := 2, ground := Go.Ground.phase }, { on := 3, ground := Go.Ground.phase }, { on := 4, ground := Go.Ground.phase }, { on := 5, ground := Go.Ground.phase }], guard := none }) (v := ?_) rfl (by decide) (by kernel_rfl) (by kernel_rfl) (by kernel_rfl) (by kernel_rfl) (fun _ _ _ h => h) (Or.inl ⟨by rfl, ?_⟩) (hSs _ _ _ _ _ _ _) ?_
          rotate_left
          · intro wz hSz
            obtain ⟨z0, z1, z2, z3, z4, z5, z6, z7⟩ := hSz
            go_simp
            (try with_reducible rfl)
          try simp only [Act.put, List.setIfInBounds_toArray, List.set_cons_zero, List.set_cons_succ]
          refine anyL_done (by kernel_rfl) ?_ _
          go_wp2
          refine bodyPost_ret (v := .tuple #[.agg #[.int .i64 0, .string ⟨#[]⟩, .string l, .slice none 0 0, .slice none 0 0, .string ⟨#[]⟩, .int .i64 n.at'], .slice none 0 0, .int .i64 n.at', .int .i64 13]) (by simp [results, Tryd.results54, go_sem, cell_set_same, r0, r1, r2, r3, r4, r5, r6]) rfl ?_
          exact ⟨by rw [HQ.out.1]; exact (below7 HB1.out hhs _ _ _ _ _ _ _).drew, .inl ⟨_, _, _, _, _, _, _, by decide, HE.out, rfl⟩⟩
        | some sp =>
          rw [hlk] at cL hE2
          simp only [Option.getD_some, Option.isSome_some] at cL
          simp only at hE2
          obtain ⟨W3, hW3⟩ : ∃ W3, W3 = (wr.setCell ⟨M, 2, none⟩ (.string l)).setCell ⟨M, 1, none⟩ (.string sp) := ⟨_, rfl⟩
          obtain ⟨K3, B3, P3⟩ := HX.out sp
          rw [← hW3] at K3 B3 P3
          have hM3 : M < W3.heap.size := K3.out.lt
          have hz3 := P3.size
          have HD3 := Lib.hid (P3.row HROW.out (by omega))
          have HE2 := Lib.hid hE2
          have H3 : Hid (HB n pa ca pk ck hs R M sp l (.slice none ([] : List AttrD).length 0) W3) := Lib.hid K3
          have HB3 := Lib.hid B3
          clear hlk hE2 K3 B3 P3
          go_wp2_with fail
          refine cL.mono ?_
          rintro e w3 ⟨rfl, rfl⟩
          clear cL
          go_upto_region 18 with fail
          simp only [← hW3]
          clear o1 o2 q1 q2 o1' q1' hW3 f3 HX HROW hwz
          go_wp2
          go_loopw [20] (fun q wr => ∃ (i : Nat) (acc : List AttrD) (pv : Option Addr) (cv : Nat), i ≤ n.al.length ∧ q = .int .i64 i ∧ acc.length ≤ i ∧ attrsP D.reverse n.al [] = attrsP D.reverse (n.al.drop i) acc ∧ HB n pa ca pk ck hs R M sp l (.slice pv acc.length cv) wr ∧ wr.ownsRow W3.heap.size 43 4 (.slice pv acc.length cv) acc.length (attrsCells acc) ∧ Keep M W3 wr) (fun q _ => n.al.length - (intOf q).toNat)
          case atStart => exact ⟨0, [], none, 0, Nat.zero_le _, rfl, Nat.le_refl _, rfl, H3.out, World.ownsRow_nil _ _ _ _, Keep.refl _ _⟩
          case round =>
            obtain ⟨i, acc, pv, cv, hi, rfl, hal2, hat, Kr, hrow, hkp⟩ := hrel
            obtain ⟨wo, rfl⟩ : ∃ wo, wo = wr := ⟨_, rfl⟩
            have hz := hkp.size
            have f3 := Kr.nod.cell 3
            simp only [List.getElem?_toArray, List.getElem?_cons_succ, List.getElem?_cons_zero] at f3
            have Bw := hkp.below HB3.out hlo (by omega)
            by_cases hlt : i < n.al.length
            · have hiz : (i : Int) < (n.al.length : Int) := by omega
              obtain ⟨a, rfl, a0, a1, a2, a3⟩ := (HA0.out.below (by rw [HQ.out.1]; exact Bw)) i hlt
              have hst := attrsP_step D.reverse n.al acc i hlt
              have hAi := HO.out n.al[i] (List.getElem_mem _)
              obtain ⟨x, hx⟩ : ∃ x, n.al[i] = x := ⟨_, rfl⟩
              rw [hx] at a0 a1 a2 a3 hst hAi
              obtain ⟨cc, hcc⟩ : ∃ c, a.add (i * 4) = c := ⟨_, rfl⟩
              rw [hcc] at a0 a1 a2 a3
              simp only [Addr.add, Nat.reduceEqDiff, ↓reduceIte] at a1 a2 a3
              obtain ⟨sp1, nm, va, at'⟩ := x
              simp only at a0 a1 a2 a3 hst hAi
              have kA : Blk (wo.alloc (.cells #[.string sp1, .string nm, .string va, .int .i64 at'] 43)) wo.heap.size #[.string sp1, .string nm, .string va, .int .i64 at'] 43 := Blk.new wo _ _
              have bA : Below wo.heap.size wo (wo.alloc (.cells #[.string sp1, .string nm, .string va, .int .i64 at'] 43)) := (Below.refl _ _).alloc (Nat.le_refl _) _
              have cD := nref_declares sp1 nm va at' (wo.alloc (.cells #[.string sp1, .string nm, .string va, .int .i64 at'] 43)) hAi.1
              have cS : ∀ wx, _ := fun wx => nref_Split nm wx hAi.1
              have HKA := Lib.hid kA
              have HBA := Lib.hid bA
              have HKP := Lib.hid hkp
              have HROW := Lib.hid hrow
              have HKR := Lib.hid Kr
              have HBw := Lib.hid Bw
              have hneA : wo.heap.size ≠ R := by omega
              have hMo : M < wo.heap.size := Kr.out.lt
              have HS := Lib.hid (hat.trans hst)
              have hsa : spaceA D.reverse nm = if (splitP nm).1 = noB then some noB else lookP D.reverse (splitP nm).1 := rfl
              clear kA bA hkp hrow hx Kr Bw hat hst
              cases hd : declP nm with
              | some d =>
                have hs1 := HS.out
                rw [hd] at hs1
                simp only at hs1
                rw [declR_some hd] at cD
                simp only at cD
                have HS1 := Lib.hid hs1
                clear hd hs1 hsa cS HS
                go_wp2_with fail
                refine cD.mono ?_
                rintro e w4 ⟨rfl, b4⟩
                have b14 := HBA.out.trans (b4.mono HBA.out.size)
                have HN := Lib.hid (And.intro (HKR.out.below b14) (And.intro (row_below HROW.out b14) (HKP.out.more b14)))
                clear b14 b4 cD
                go_wp2
                go_roundw
                case rel => exact ⟨i + 1, acc, pv, cv, by omega, by go_num, by omega, HS1.out, HN.out.1, HN.out.2.1, HN.out.2.2⟩
                case measure => simp [intOf]; omega
              | none =>
                have hs1 := HS.out
                rw [hd] at hs1
                simp only at hs1
                have hr2 := declR_none hd
                rw [hr2] at cD
                obtain ⟨loc, hloc⟩ : ∃ loc, (splitP nm).2.1 = loc := ⟨_, rfl⟩
                obtain ⟨pf, hpf⟩ : ∃ pf, (splitP nm).1 = pf := ⟨_, rfl⟩
                have hpz : pf.size ≤ 1000000 := by rw [← hpf]; exact Nat.le_trans (split_size nm).1 hAi.1
                rw [hloc] at hs1 cS
                rw [hpf] at cS hsa
                clear hd hr2 HS hloc hpf
                by_cases hq : pf = noB
                · rw [if_pos hq] at hsa
                  rw [hsa] at hs1
                  simp only at hs1
                  have HS1 := Lib.hid hs1
                  subst hq
                  unfold noB at cS
                  clear hsa hs1
                  go_wp2_with fail
                  refine cD.mono ?_
                  rintro e w4 ⟨rfl, b4⟩
                  have kA4 := HKA.out.more b4
                  have s0 := kA4.cell 0
                  have s1 := kA4.cell 1
                  simp only [List.getElem?_toArray, List.getElem?_cons_succ, List.getElem?_cons_zero] at s0 s1
                  have cS4 := cS w4
                  have HKA4 := Lib.hid kA4
                  have HB4 := Lib.hid (HBA.out.trans (b4.mono HBA.out.size))
                  clear kA4 b4 cD cS HKA HBA a0 a1 a2 a3
                  go_wp2_with fail
                  refine cS4.mono ?_
                  rintro e w5 ⟨rfl, b5⟩
                  have kA5 := HKA4.out.more b5
                  have b15 := HB4.out.trans (b5.mono HB4.out.size)
                  clear cS4 b5 s0 s1 HKA4 HB4
                  have s2c := kA5.cell 2
                  have s3c := kA5.cell 3
                  simp only [List.getElem?_toArray, List.getElem?_cons_succ, List.getElem?_cons_zero] at s2c s3c
                  have K5 := HKR.out.below b15
                  have row5 := row_below HROW.out b15
                  have hac := attrs_of_row row5
                  have m3 := K5.out.cell 3
                  simp only [List.getElem?_toArray, List.getElem?_cons_succ, List.getElem?_cons_zero] at m3
                  have HAC := Lib.hid hac
                  have HK5 := Lib.hid K5
                  have HR5 := Lib.hid row5
                  have H15 := Lib.hid b15
                  have HKA5 := Lib.hid kA5
                  have hz5 := b15.size
                  clear K5 row5 hac b15 kA5 f3
                  go_wp2
                  go_loopw [28] (fun q wr => ∃ j : Nat, j ≤ acc.length ∧ q = .int .i64 j ∧ (∀ k (hk : k < acc.length), k < j → ¬ (acc[k].sp = noB ∧ acc[k].nm = loc)) ∧ wr = w5) (fun q _ => acc.length - (intOf q).toNat)
                  case atStart => exact ⟨0, Nat.zero_le _, rfl, fun k _ h => absurd h (Nat.not_lt_zero _), rfl⟩
                  case round =>
                    obtain ⟨j, hj, rfl, hno, hwr⟩ := hrel
                    obtain rfl : w5 = wr := hwr.symm
                    by_cases hlj : j < acc.length
                    · obtain ⟨b, rfl, d0, d1, -, -⟩ := HAC.out j hlj
                      have hno2 := hno
                      obtain ⟨y, hy⟩ : ∃ y, acc[j] = y := ⟨_, rfl⟩
                      rw [hy] at d0 d1
                      obtain ⟨ccb, hccb⟩ : ∃ c, b.add (j * 4) = c := ⟨_, rfl⟩
                      rw [hccb] at d0 d1
                      simp only [Addr.add, Nat.reduceEqDiff, ↓reduceIte] at d1
                      obtain ⟨ysp, ynm, yva, yat⟩ := y
                      simp only at d0 d1
                      have hjz : (j : Int) < (acc.length : Int) := by omega
                      by_cases e1 : ysp = noB
                      · by_cases e2 : ynm = loc
                        · have hs2 := HS1.out
                          rw [if_pos ⟨acc[j], List.getElem_mem _, by rw [hy]; exact e1, by rw [hy]; exact e2⟩] at hs2
                          have hE : resP L.reverse n = (zeroN, at', 10) := by rw [HE2.out, hs2]; exact if_pos (by simp)
                          have HE := Lib.hid hE
                          have t7 : (ysp.toList == []) = true := by rw [e1, blist]; rfl
                          have t8 : ysp.toList.isEmpty = true := by rw [e1, blist]; rfl
                          clear e1
                          subst e2
                          have K5 := HK5.out
                          obtain ⟨⟨r0, r1, r2, r3, r4, r5, r6⟩, g0, g1, g2, g3, g4, g5, g6⟩ := K5.res.seven
                          have o0 := K5.out.cell 0
                          have o1 := K5.out.cell 1
                          have o2 := K5.out.cell 2
                          have o3 := K5.out.cell 3
                          have o4 := K5.out.cell 4
                          have o5 := K5.out.cell 5
                          have o6 := K5.out.cell 6
                          simp only [List.getElem?_toArray, List.getElem?_cons_succ, List.getElem?_cons_zero] at o0 o1 o2 o3 o4 o5 o6
                          have HB1 := Lib.hid (HBw.out.trans (H15.out.mono (by omega)))
                          have hne2 := hneA
                          have ha := s3c
                          have HNO := Lib.hid hno2
                          clear hs2 hE K5 hno hno2 hy 
                          go_wp2
                          have hS0 : w5.drew.cell? ⟨M, 0, none⟩ = some (.int .i64 0) ∧ w5.drew.cell? ⟨M, 1, none⟩ = some (.string sp) ∧ w5.drew.cell? ⟨M, 2, none⟩ = some (.string l) ∧ w5.drew.cell? ⟨M, 3, none⟩ = some (.slice (some b) acc.length cv) ∧ w5.drew.cell? ⟨M, 4, none⟩ = some (.slice none 0 0) ∧ w5.drew.cell? ⟨M, 5, none⟩ = some (.string ⟨#[]⟩) ∧ w5.drew.cell? ⟨M, 6, none⟩ = some (.int .i64 n.at') ∧ w5.drew.cell? ⟨wo.heap.size, 3, none⟩ = some (.int .i64 at') := ⟨o0, o1, o2, o3, o4, o5, o6, ha⟩
                          have hSs := fun y0 y1 y2 y3 y4 y5 y6 => (show _ ∧ _ ∧ _ ∧ _ ∧ _ ∧ _ ∧ _ ∧ _ from ⟨set_cell7 (R := R) o0 hne1 y0 y1 y2 y3 y4 y5 y6, set_cell7 (R := R) o1 hne1 y0 y1 y2 y3 y4 y5 y6, set_cell7 (R := R) o2 hne1 y0 y1 y2 y3 y4 y5 y6, set_cell7 (R := R) o3 hne1 y0 y1 y2 y3 y4 y5 y6, set_cell7 (R := R) o4 hne1 y0 y1 y2 y3 y4 y5 y6, set_cell7 (R := R) o5 hne1 y0 y1 y2 y3 y4 y5 y6, set_cell7 (R := R) o6 hne1 y0 y1 y2 y3 y4 y5 y6, set_cell7 (R := R) ha hne2 y0 y1 y2 y3 y4 y5 y6⟩)
                          refine wp_region_late (S := fun w' => w'.cell? ⟨M, 0, none⟩ = some (.int .i64 0) ∧ w'.cell? ⟨M, 1, none⟩ = some (.string sp) ∧ w'.cell? ⟨M, 2, none⟩ = some (.string l) ∧ w'.cell? ⟨M, 3, none⟩ = some (.slice (some b) acc.length cv) ∧ w'.cell? ⟨M, 4, none⟩ = some (.slice none 0 0) ∧ w'.cell? ⟨M, 5, none⟩ = some (.string ⟨#[]⟩) ∧ w'.cell? ⟨M, 6, none⟩ = some (.int .i64 n.at') ∧ w'.cell? ⟨wo.heap.size, 3, none⟩ = some (.int .i64 at')) (D := []) (by kernel_rfl) ?_
                          refine anyL_take (i := 0) (oi := { dst := some 185, op := Go.Op.load 29 (Go.Operand.tmp 8), type := 29, pos := "ref.go:92", after := #[], guard := none }) (v := ?_) rfl (by decide) (by kernel_rfl) (by kernel_rfl) (by kernel_rfl) (by kernel_rfl) (fun _ _ _ h => h) (Or.inl ⟨by rfl, ?_⟩) hS0 ?_
                          rotate_left
                          · intro wz hSz
                            obtain ⟨z0, z1, z2, z3, z4, z5, z6, z7⟩ := hSz
                            go_simp
                            (try with_reducible rfl)
                          try simp only [Act.put, List.setIfInBounds_toArray, List.set_cons_zero, List.set_cons_succ]
                          refine anyL_take (i := 1) (oi := { dst := some 186, op := Go.Op.fieldAddr 43 (Go.Operand.tmp 21) 3, type := 0, pos := "ref.go:92", after := #[{ on := 4, ground := Go.Ground.gcOnly Go.Departure.lateStores }], guard := none }) (v := ?_) rfl (by decide) (by kernel_rfl) (by kernel_rfl) (by kernel_rfl) (by kernel_rfl) (fun _ _ _ h => h) (Or.inl ⟨by rfl, ?_⟩) hS0 ?_
                          rotate_left
                          · intro wz hSz
                            obtain ⟨z0, z1, z2, z3, z4, z5, z6, z7⟩ := hSz
                            go_simp
                            (try with_reducible rfl)
                          try simp only [Act.put, List.setIfInBounds_toArray, List.set_cons_zero, List.set_cons_succ]
                          refine anyL_take (i := 2) (oi := { dst := some 187, op := Go.Op.load 3 (Go.Operand.tmp 186), type := 3, pos := "ref.go:92", after := #[{ on := 1, ground := Go.Ground.data }, { on := 4, ground := Go.Ground.gcOnly Go.Departure.lateStores }], guard := none }) (v := ?_) rfl (by decide) (by kernel_rfl) (by kernel_rfl) (by kernel_rfl) (by kernel_rfl) (fun _ _ _ h => h) (Or.inl ⟨by rfl, ?_⟩) hS0 ?_
                          rotate_left
                          · intro wz hSz
                            obtain ⟨z0, z1, z2, z3, z4, z5, z6, z7⟩ := hSz
                            go_simp
                            (try with_reducible rfl)
                          try simp only [Act.put, List.setIfInBounds_toArray, List.set_cons_zero, List.set_cons_succ]
                          refine anyL_ready (rs := [3]) (by kernel_rfl) (by simp) ?_
                          refine AllL.cons (o := { dst := none, op := Go.Op.store 29 (Go.Operand.tmp 4) (Go.Operand.tmp 185), type := 0, pos := "ref.go:92", after := #[{ on := 0, ground := Go.Ground.data }, { on := 0, ground := Go.Ground.phase }, { on := 1, ground := Go.Ground.textOnly Go.Departure.lateStores }, { on := 2, ground := Go.Ground.textOnly Go.Departure.lateStores }], guard := none }) rfl (fun K hK => ?_) AllL.nil
                          go_simp
                          refine hK _ _ (hSs _ _ _ _ _ _ _) ?_
                          clear hK K
                          try simp only [Act.put, List.setIfInBounds_toArray, List.set_cons_zero, List.set_cons_succ]
                          refine anyL_take (i := 4) (oi := { dst := some 5, op := Go.Op.assign (Go.Operand.const (Go.Value.slice none 0 0)), type := 109, pos := "ref.go:92", after := #[{ on := 3, ground := Go.Ground.chain }, { on := 0, ground := Go.Ground.phase }, { on := 1, ground := Go.Ground.textOnly Go.Departure.lateStores }, { on := 2, ground := Go.Ground.textOnly Go.Departure.lateStores }, { on := 3, ground := Go.Ground.phase }], guard := none }) (v := ?_) rfl (by decide) (by kernel_rfl) (by kernel_rfl) (by kernel_rfl) (by kernel_rfl) (fun _ _ _ h => h) (Or.inl ⟨by rfl, ?_⟩) (hSs _ _ _ _ _ _ _) ?_
                          rotate_left
                          · intro wz hSz
                            obtain ⟨z0, z1, z2, z3, z4, z5, z6, z7⟩ := hSz
                            go_simp
                            (try with_reducible rfl)
                          try simp only [Act.put, List.setIfInBounds_toArray, List.set_cons_zero, List.set_cons_succ]
                          refine anyL_take (i := 5) (oi := { dst := some 6, op := Go.Op.assign (Go.Operand.tmp 187), type := 3, pos := "ref.go:92", after := #[{ on := 2, ground := Go.Ground.data }, { on := 4, ground := Go.Ground.chain }, { on := 0, ground := Go.Ground.phase }, { on := 1, ground := Go.Ground.phase }, { on := 2, ground := Go.Ground.phase }, { on := 3, ground := Go.Ground.phase }, { on := 4, ground := Go.Ground.phase }], guard := none }) (v := ?_) rfl (by decide) (by kernel_rfl) (by kernel_rfl) (by kernel_rfl) (by kernel_rfl) (fun _ _ _ h => h) (Or.inl ⟨by rfl, ?_⟩) (hSs _ _ _ _ _ _ _) ?_
                          rotate_left
                          · intro wz hSz
                            obtain ⟨z0, z1, z2, z3, z4, z5, z6, z7⟩ := hSz
                            go_simp
                            (try with_reducible rfl)
                          try simp only [Act.put, List.setIfInBounds_toArray, List.set_cons_zero, List.set_cons_succ]
                          refine anyL_take (i := 6) (oi := { dst := some 7, op := Go.Op.assign (Go.Operand.const (Go.Value.int Go.IntKind.i64 10)), type := 3, pos := "ref.go:92", after := #[{ on := 5, ground := Go.Ground.chain }, { on := 0, ground := Go.Ground.phase }, { on := 1, ground := Go.Ground.phase }, { on := 2, ground := Go.Ground.phase }, { on := 3, ground := Go.Ground.phase }, { on := 4, ground := Go.Ground.phase }, { on := 5, ground := Go.Ground.phase }], guard := none }) (v := ?_) rfl (by decide) (by kernel_rfl) (by kernel_rfl) (by kernel_rfl) (by kernel_rfl) (fun _ _ _ h => h) (Or.inl ⟨by rfl, ?_⟩) (hSs _ _ _ _ _ _ _) ?_
                          rotate_left
                          · intro wz hSz
                            obtain ⟨z0, z1, z2, z3, z4, z5, z6, z7⟩ := hSz
                            go_simp
                            (try with_reducible rfl)
                          try simp only [Act.put, List.setIfInBounds_toArray, List.set_cons_zero, List.set_cons_succ]
                          refine anyL_done (by kernel_rfl) ?_ _
                          go_wp2
                          refine bodyPost_ret (v := .tuple #[.agg #[.int .i64 0, .string sp, .string l, .slice (some b) acc.length cv, .slice none 0 0, .string ⟨#[]⟩, .int .i64 n.at'], .slice none 0 0, .int .i64 at', .int .i64 10]) (by simp [results, Tryd.results54, go_sem, cell_set_same, r0, r1, r2, r3, r4, r5, r6]) rfl ?_
                          exact ⟨by rw [HQ.out.1]; exact (below7 HB1.out hhs _ _ _ _ _ _ _).drew, .inl ⟨_, _, _, _, _, _, _, by decide, HE.out, rfl⟩⟩
                        · have t1 := str_ne2 e2
                          have t2 := str_ne3 e2
                          have t7 : (ysp.toList == []) = true := by rw [e1, blist]; rfl
                          have t8 : ysp.toList.isEmpty = true := by rw [e1, blist]; rfl
                          clear e1
                          have hnx : ∀ k (hk : k < acc.length), k < j + 1 → ¬ (acc[k].sp = noB ∧ acc[k].nm = loc) := fun k hk hkj => by
                            rcases Nat.lt_or_ge k j with h | h
                            · exact hno2 k hk h
                            · obtain rfl : k = j := by omega
                              rw [hy]; exact fun e => e2 e.2
                          have HNX := Lib.hid hnx
                          clear hnx hno hno2 hy e2 
                          go_wp2
                          go_roundw
                          case rel => exact ⟨j + 1, by omega, by go_num, HNX.out, trivial⟩
                          case measure => simp [intOf]; omega
                      · have t7 : (ysp.toList == []) = false := cne e1 rfl
                        have t8 : ysp.toList.isEmpty = false := by cases hl : ysp.toList with | nil => exact absurd (kstr_ext (by rw [← blist, hl]; rfl)) e1 | cons x r => rfl
                        have hnx : ∀ k (hk : k < acc.length), k < j + 1 → ¬ (acc[k].sp = noB ∧ acc[k].nm = loc) := fun k hk hkj => by
                          rcases Nat.lt_or_ge k j with h | h
                          · exact hno2 k hk h
                          · obtain rfl : k = j := by omega
                            rw [hy]; exact fun e => e1 e.1
                        have HNX := Lib.hid hnx
                        clear hnx hno hno2 hy e1
                        go_wp2
                        go_roundw
                        case rel => exact ⟨j + 1, by omega, by go_num, HNX.out, trivial⟩
                        case measure => simp [intOf]; omega
                    · obtain rfl : j = acc.length := by omega
                      have hjz : ¬ (acc.length : Int) < (acc.length : Int) := by omega
                      have hs2 := HS1.out
                      rw [if_neg (fun ⟨x, hx, h1, h2⟩ => by
                        obtain ⟨k, hk, rfl⟩ := List.getElem_of_mem hx
                        exact hno k hk hk ⟨h1, h2⟩)] at hs2
                      have HS2 := Lib.hid hs2
                      have row5 := HR5.out
                      clear hs2 hno
                      go_wp2_with (at_builtin; refine wpList_append_own _ rfl _ _ 26 rfl W3.heap.size 43 j0 (.agg #[.string ⟨#[]⟩, .string ⟨#[]⟩, .string ⟨#[]⟩, .int .i64 0]) 4 56 Tryd.underlying26 hj0 hj1 hj3 hj4 rfl (by decide) (.slice pv acc.length cv) acc.length (attrsCells acc) rfl (row5.alloc _) ⟨w5.heap.size, 0, none⟩ 1 1 (attrCells ⟨noB, loc, va, at'⟩) rfl rfl (attr_new w5 _ ⟨noB, loc, va, at'⟩) (attr_one _) (by unfold maxLen; omega) (by omega) (by simp; omega) ?_)
                      intro v' w6 hown6 hgr6 _
                      obtain ⟨A', c', rfl⟩ := own_form hown6
                      have hrk : ∀ k, (Value.slice pv acc.length cv).ownBlock = some k → W3.heap.size ≤ k := fun k hk => (row_kind row5 k hk).1
                      have K6 := (HK5.out.below ((Below.refl _ _).alloc (Nat.le_refl _) (.cells #[.string noB, .string loc, .string va, .int .i64 at'] 43))).grown hgr6 hrk (by omega) (by omega) (by omega)
                      have P6 := ((HKP.out.more H15.out).alloc (.cells #[.string noB, .string loc, .string va, .int .i64 at'] 43)).grown hgr6 hrk
                      have o3 := K6.out.cell 3
                      simp only [List.getElem?_toArray, List.getElem?_cons_succ, List.getElem?_cons_zero] at o3
                      have q3 := K6.out.fr 3
                      have K7 : HB n (some a) ca pk ck hs R M sp l (.slice A' (acc ++ [(⟨noB, loc, va, at'⟩ : AttrD)]).length c') (w6.setCell ⟨M, 3, none⟩ (.slice A' (acc.length + 1) c')) := by
                        rw [List.length_append, List.length_singleton]
                        exact ⟨K6.nod.own (q := ⟨M, 3, none⟩) (Ne.symm hne3) _, K6.res.own (q := ⟨M, 3, none⟩) hne1 _, K6.out.set 3 _⟩
                      have row7 : (w6.setCell ⟨M, 3, none⟩ (.slice A' (acc.length + 1) c')).ownsRow W3.heap.size 43 4 (.slice A' (acc ++ [(⟨noB, loc, va, at'⟩ : AttrD)]).length c') (acc ++ [(⟨noB, loc, va, at'⟩ : AttrD)]).length (attrsCells (acc ++ [(⟨noB, loc, va, at'⟩ : AttrD)])) := by
                        rw [List.length_append, List.length_singleton, attrsCells_app, show attrsCells [(⟨noB, loc, va, at'⟩ : AttrD)] = attrCells ⟨noB, loc, va, at'⟩ by simp [attrsCells]]
                        exact ((Keep.refl M w6).set 3 _).row hown6 (by omega)
                      have HN := Lib.hid (And.intro K7 (And.intro row7 (P6.set 3 (.slice A' (acc.length + 1) c'))))
                      clear K7 row7 P6 K6 hown6 hgr6 row5 hrk s2c s3c m3
                      go_wp2
                      clear o3 q3 HR5 H15 HAC HK5 HKA5
                      go_roundw
                      case rel => exact ⟨i + 1, acc ++ [⟨noB, loc, va, at'⟩], A', c', by omega, by go_num, by rw [List.length_append, List.length_singleton]; omega, HS2.out, HN.out.1, HN.out.2.1, HN.out.2.2⟩
                      case measure => simp [intOf]; omega
                · rw [if_neg hq] at hsa
                  have q4 : (pf.toList == []) = false := cne hq rfl
                  have q5 : pf.toList.isEmpty = false := by cases hl : pf.toList with | nil => exact absurd (kstr_ext (by rw [← blist, hl]; rfl)) hq | cons x r => rfl
                  have cL := fun (wx : World) hrx => nref_lookup D pf pd cd w1.heap.size wx hrx (by omega)
                  clear hq
                  cases hlk : lookP D.reverse pf with
                  | none =>
                    rw [hlk] at hsa cL
                    rw [hsa] at hs1
                    simp only at hs1
                    simp only [Option.getD_none, Option.isSome_none] at cL
                    unfold noB at cL
                    have hE : resP L.reverse n = (zeroN, at', 13) := by rw [HE2.out, hs1]; exact if_pos (by simp)
                    have HE := Lib.hid hE
                    clear hE hs1 hsa hlk
                    go_wp2_with fail
                    refine cD.mono ?_
                    rintro e w4 ⟨rfl, b4⟩
                    have kA4 := HKA.out.more b4
                    have s0 := kA4.cell 0
                    have s1 := kA4.cell 1
                    simp only [List.getElem?_toArray, List.getElem?_cons_succ, List.getElem?_cons_zero] at s0 s1
                    have cS4 := cS w4
                    have HKA4 := Lib.hid kA4
                    have HB4 := Lib.hid (HBA.out.trans (b4.mono HBA.out.size))
                    clear kA4 b4 cD cS HKA HBA a0 a1 a2 a3
                    go_wp2_with fail
                    refine cS4.mono ?_
                    rintro e w5 ⟨rfl, b5⟩
                    have kA5 := HKA4.out.more b5
                    have b15 := HB4.out.trans (b5.mono HB4.out.size)
                    clear cS4 b5 s0 s1 HKA4 HB4
                    go_wp2_with fail
                    refine (cL w5 (((HKP.out.more b15).row HD3.out (by omega)))).mono ?_
                    rintro e w6 ⟨rfl, rfl⟩
                    have ha := kA5.cell 3
                    simp only [List.getElem?_toArray, List.getElem?_cons_succ, List.getElem?_cons_zero] at ha
                    have K5 := HKR.out.below b15
                    obtain ⟨⟨r0, r1, r2, r3, r4, r5, r6⟩, g0, g1, g2, g3, g4, g5, g6⟩ := K5.res.seven
                    have o0 := K5.out.cell 0
                    have o1 := K5.out.cell 1
                    have o2 := K5.out.cell 2
                    have o3 := K5.out.cell 3
                    have o4 := K5.out.cell 4
                    have o5 := K5.out.cell 5
                    have o6 := K5.out.cell 6
                    simp only [List.getElem?_toArray, List.getElem?_cons_succ, List.getElem?_cons_zero] at o0 o1 o2 o3 o4 o5 o6
                    have HB1 := Lib.hid (HBw.out.trans (b15.mono (by omega)))
                    have hne2 := hneA
                    clear K5 b15 kA5 f3 cL
                    go_wp2
                    have hS0 : w6.drew.cell? ⟨M, 0, none⟩ = some (.int .i64 0) ∧ w6.drew.cell? ⟨M, 1, none⟩ = some (.string sp) ∧ w6.drew.cell? ⟨M, 2, none⟩ = some (.string l) ∧ w6.drew.cell? ⟨M, 3, none⟩ = some (.slice pv acc.length cv) ∧ w6.drew.cell? ⟨M, 4, none⟩ = some (.slice none 0 0) ∧ w6.drew.cell? ⟨M, 5, none⟩ = some (.string ⟨#[]⟩) ∧ w6.drew.cell? ⟨M, 6, none⟩ = some (.int .i64 n.at') ∧ w6.drew.cell? ⟨wo.heap.size, 3, none⟩ = some (.int .i64 at') := ⟨o0, o1, o2, o3, o4, o5, o6, ha⟩
                    have hSs := fun y0 y1 y2 y3 y4 y5 y6 => (show _ ∧ _ ∧ _ ∧ _ ∧ _ ∧ _ ∧ _ ∧ _ from ⟨set_cell7 (R := R) o0 hne1 y0 y1 y2 y3 y4 y5 y6, set_cell7 (R := R) o1 hne1 y0 y1 y2 y3 y4 y5 y6, set_cell7 (R := R) o2 hne1 y0 y1 y2 y3 y4 y5 y6, set_cell7 (R := R) o3 hne1 y0 y1 y2 y3 y4 y5 y6, set_cell7 (R := R) o4 hne1 y0 y1 y2 y3 y4 y5 y6, set_cell7 (R := R) o5 hne1 y0 y1 y2 y3 y4 y5 y6, set_cell7 (R := R) o6 hne1 y0 y1 y2 y3 y4 y5 y6, set_cell7 (R := R) ha hne2 y0 y1 y2 y3 y4 y5 y6⟩)
                    refine wp_region_late (S := fun w' => w'.cell? ⟨M, 0, none⟩ = some (.int .i64 0) ∧ w'.cell? ⟨M, 1, none⟩ = some (.string sp) ∧ w'.cell? ⟨M, 2, none⟩ = some (.string l) ∧ w'.cell? ⟨M, 3, none⟩ = some (.slice pv acc.length cv) ∧ w'.cell? ⟨M, 4, none⟩ = some (.slice none 0 0) ∧ w'.cell? ⟨M, 5, none⟩ = some (.string ⟨#[]⟩) ∧ w'.cell? ⟨M, 6, none⟩ = some (.int .i64 n.at') ∧ w'.cell? ⟨wo.heap.size, 3, none⟩ = some (.int .i64 at')) (D := []) (by kernel_rfl) ?_
                    refine anyL_take (i := 0) (oi := { dst := some 157, op := Go.Op.load 29 (Go.Operand.tmp 8), type := 29, pos := "ref.go:87", after := #[], guard := none }) (v := ?_) rfl (by decide) (by kernel_rfl) (by kernel_rfl) (by kernel_rfl) (by kernel_rfl) (fun _ _ _ h => h) (Or.inl ⟨by rfl, ?_⟩) hS0 ?_
                    rotate_left
                    · intro wz hSz
                      obtain ⟨z0, z1, z2, z3, z4, z5, z6, z7⟩ := hSz
                      go_simp
                      (try with_reducible rfl)
                    try simp only [Act.put, List.setIfInBounds_toArray, List.set_cons_zero, List.set_cons_succ]
                    refine anyL_take (i := 1) (oi := { dst := some 158, op := Go.Op.fieldAddr 43 (Go.Operand.tmp 21) 3, type := 0, pos := "ref.go:87", after := #[{ on := 4, ground := Go.Ground.gcOnly Go.Departure.lateStores }], guard := none }) (v := ?_) rfl (by decide) (by kernel_rfl) (by kernel_rfl) (by kernel_rfl) (by kernel_rfl) (fun _ _ _ h => h) (Or.inl ⟨by rfl, ?_⟩) hS0 ?_
                    rotate_left
                    · intro wz hSz
                      obtain ⟨z0, z1, z2, z3, z4, z5, z6, z7⟩ := hSz
                      go_simp
                      (try with_reducible rfl)
                    try simp only [Act.put, List.setIfInBounds_toArray, List.set_cons_zero, List.set_cons_succ]
                    refine anyL_take (i := 2) (oi := { dst := some 159, op := Go.Op.load 3 (Go.Operand.tmp 158), type := 3, pos := "ref.go:87", after := #[{ on := 1, ground := Go.Ground.data }, { on := 4, ground := Go.Ground.gcOnly Go.Departure.lateStores }], guard := none }) (v := ?_) rfl (by decide) (by kernel_rfl) (by kernel_rfl) (by kernel_rfl) (by kernel_rfl) (fun _ _ _ h => h) (Or.inl ⟨by rfl, ?_⟩) hS0 ?_
                    rotate_left
                    · intro wz hSz
                      obtain ⟨z0, z1, z2, z3, z4, z5, z6, z7⟩ := hSz
                      go_simp
                      (try with_reducible rfl)
                    try simp only [Act.put, List.setIfInBounds_toArray, List.set_cons_zero, List.set_cons_succ]
                    refine anyL_ready (rs := [3]) (by kernel_rfl) (by simp) ?_
                    refine AllL.cons (o := { dst := none, op := Go.Op.store 29 (Go.Operand.tmp 4) (Go.Operand.tmp 157), type := 0, pos := "ref.go:87", after := #[{ on := 0, ground := Go.Ground.data }, { on := 0, ground := Go.Ground.phase }, { on := 1, ground := Go.Ground.textOnly Go.Departure.lateStores }, { on := 2, ground := Go.Ground.textOnly Go.Departure.lateStores }], guard := none }) rfl (fun K hK => ?_) AllL.nil
                    go_simp
                    refine hK _ _ (hSs _ _ _ _ _ _ _) ?_
                    clear hK K
                    try simp only [Act.put, List.setIfInBounds_toArray, List.set_cons_zero, List.set_cons_succ]
                    refine anyL_take (i := 4) (oi := { dst := some 5, op := Go.Op.assign (Go.Operand.const (Go.Value.slice none 0 0)), type := 109, pos := "ref.go:87", after := #[{ on := 3, ground := Go.Ground.chain }, { on := 0, ground := Go.Ground.phase }, { on := 1, ground := Go.Ground.textOnly Go.Departure.lateStores }, { on := 2, ground := Go.Ground.textOnly Go.Departure.lateStores }, { on := 3, ground := Go.Ground.phase }], guard := none }) (v := ?_) rfl (by decide) (by kernel_rfl) (by kernel_rfl) (by kernel_rfl) (by kernel_rfl) (fun _ _ _ h => h) (Or.inl ⟨by rfl, ?_⟩) (hSs _ _ _ _ _ _ _) ?_
                    rotate_left
                    · intro wz hSz
                      obtain ⟨z0, z1, z2, z3, z4, z5, z6, z7⟩ := hSz
                      go_simp
                      (try with_reducible rfl)
                    try simp only [Act.put, List.setIfInBounds_toArray, List.set_cons_zero, List.set_cons_succ]
                    refine anyL_take (i := 5) (oi := { dst := some 6, op := Go.Op.assign (Go.Operand.tmp 159), type := 3, pos := "ref.go:87", after := #[{ on := 2, ground := Go.Ground.data }, { on := 4, ground := Go.Ground.chain }, { on := 0, ground := Go.Ground.phase }, { on := 1, ground := Go.Ground.phase }, { on := 2, ground := Go.Ground.phase }, { on := 3, ground := Go.Ground.phase }, { on := 4, ground := Go.Ground.phase }], guard := none }) (v := ?_) rfl (by decide) (by kernel_rfl) (by kernel_rfl) (by kernel_rfl) (by kernel_rfl) (fun _ _ _ h => h) (Or.inl ⟨by rfl, ?_⟩) (hSs _ _ _ _ _ _ _) ?_
                    rotate_left
                    · intro wz hSz
                      obtain ⟨z0, z1, z2, z3, z4, z5, z6, z7⟩ := hSz
                      go_simp
                      (try with_reducible rfl)
                    try simp only [Act.put, List.setIfInBounds_toArray, List.set_cons_zero, List.set_cons_succ]
                    refine anyL_take (i := 6) (oi := { dst := some 7, op := Go.Op.assign (Go.Operand.const (Go.Value.int Go.IntKind.i64 13)), type := 3, pos := "ref.go:87", after := #[{ on := 5, ground := Go.Ground.chain }, { on := 0, ground := Go.Ground.phase }, { on := 1, ground := Go.Ground.phase }, { on := 2, ground := Go.Ground.phase }, { on := 3, ground := Go.Ground.phase }, { on := 4, ground := Go.Ground.phase }, { on := 5, ground := Go.Ground.phase }], guard := none }) (v := ?_) rfl (by decide) (by kernel_rfl) (by kernel_rfl) (by kernel_rfl) (by kernel_rfl) (fun _ _ _ h => h) (Or.inl ⟨by rfl, ?_⟩) (hSs _ _ _ _ _ _ _) ?_
                    rotate_left
                    · intro wz hSz
                      obtain ⟨z0, z1, z2, z3, z4, z5, z6, z7⟩ := hSz
                      go_simp
                      (try with_reducible rfl)
                    try simp only [Act.put, List.setIfInBounds_toArray, List.set_cons_zero, List.set_cons_succ]
                    refine anyL_done (by kernel_rfl) ?_ _
                    go_wp2
                    refine bodyPost_ret (v := .tuple #[.agg #[.int .i64 0, .string sp, .string l, .slice pv acc.length cv, .slice none 0 0, .string ⟨#[]⟩, .int .i64 n.at'], .slice none 0 0, .int .i64 at', .int .i64 13]) (by simp [results, Tryd.results54, go_sem, cell_set_same, r0, r1, r2, r3, r4, r5, r6]) rfl ?_
                    exact ⟨by rw [HQ.out.1]; exact (below7 HB1.out hhs _ _ _ _ _ _ _).drew, .inl ⟨_, _, _, _, _, _, _, by decide, HE.out, rfl⟩⟩
                  | some s2 =>
                    rw [hlk] at hsa cL
                    rw [hsa] at hs1
                    simp only at hs1
                    simp only [Option.getD_some, Option.isSome_some] at cL
                    have HS1 := Lib.hid hs1
                    clear hs1 hsa hlk
                    go_wp2_with fail
                    refine cD.mono ?_
                    rintro e w4 ⟨rfl, b4⟩
                    have kA4 := HKA.out.more b4
                    have s0 := kA4.cell 0
                    have s1 := kA4.cell 1
                    simp only [List.getElem?_toArray, List.getElem?_cons_succ, List.getElem?_cons_zero] at s0 s1
                    have cS4 := cS w4
                    have HKA4 := Lib.hid kA4
                    have HB4 := Lib.hid (HBA.out.trans (b4.mono HBA.out.size))
                    clear kA4 b4 cD cS HKA HBA a0 a1 a2 a3
                    go_wp2_with fail
                    refine cS4.mono ?_
                    rintro e w5 ⟨rfl, b5⟩
                    have kA5 := HKA4.out.more b5
                    have b15 := HB4.out.trans (b5.mono HB4.out.size)
                    clear cS4 b5 s0 s1 HKA4 HB4
                    go_wp2_with fail
                    refine (cL w5 (((HKP.out.more b15).row HD3.out (by omega)))).mono ?_
                    rintro e w6 ⟨rfl, hw6⟩
                    obtain rfl : w5 = w6 := hw6.symm
                    clear cL
                    have s2c := kA5.cell 2
                    have s3c := kA5.cell 3
                    simp only [List.getElem?_toArray, List.getElem?_cons_succ, List.getElem?_cons_zero] at s2c s3c
                    have K5 := HKR.out.below b15
                    have row5 := row_below HROW.out b15
                    have hac := attrs_of_row row5
                    have m3 := K5.out.cell 3
                    simp only [List.getElem?_toArray, List.getElem?_cons_succ, List.getElem?_cons_zero] at m3
                    have HAC := Lib.hid hac
                    have HK5 := Lib.hid K5
                    have HR5 := Lib.hid row5
                    have H15 := Lib.hid b15
                    have HKA5 := Lib.hid kA5
                    have hz5 := b15.size
                    clear K5 row5 hac b15 kA5 f3
                    go_wp2
                    go_loopw [28] (fun q wr => ∃ j : Nat, j ≤ acc.length ∧ q = .int .i64 j ∧ (∀ k (hk : k < acc.length), k < j → ¬ (acc[k].sp = s2 ∧ acc[k].nm = loc)) ∧ wr = w5) (fun q _ => acc.length - (intOf q).toNat)
                    case atStart => exact ⟨0, Nat.zero_le _, rfl, fun k _ h => absurd h (Nat.not_lt_zero _), rfl⟩
                    case round =>
                      obtain ⟨j, hj, rfl, hno, hwr⟩ := hrel
                      obtain rfl : w5 = wr := hwr.symm
                      by_cases hlj : j < acc.length
                      · obtain ⟨b, rfl, d0, d1, -, -⟩ := HAC.out j hlj
                        have hno2 := hno
                        obtain ⟨y, hy⟩ : ∃ y, acc[j] = y := ⟨_, rfl⟩
                        rw [hy] at d0 d1
                        obtain ⟨ccb, hccb⟩ : ∃ c, b.add (j * 4) = c := ⟨_, rfl⟩
                        rw [hccb] at d0 d1
                        simp only [Addr.add, Nat.reduceEqDiff, ↓reduceIte] at d1
                        obtain ⟨ysp, ynm, yva, yat⟩ := y
                        simp only at d0 d1
                        have hjz : (j : Int) < (acc.length : Int) := by omega
                        by_cases e1 : ysp = s2
                        · by_cases e2 : ynm = loc
                          · have hs2 := HS1.out
                            rw [if_pos ⟨acc[j], List.getElem_mem _, by rw [hy]; exact e1, by rw [hy]; exact e2⟩] at hs2
                            have hE : resP L.reverse n = (zeroN, at', 10) := by rw [HE2.out, hs2]; exact if_pos (by simp)
                            have HE := Lib.hid hE
                            subst e1
                            subst e2
                            have K5 := HK5.out
                            obtain ⟨⟨r0, r1, r2, r3, r4, r5, r6⟩, g0, g1, g2, g3, g4, g5, g6⟩ := K5.res.seven
                            have o0 := K5.out.cell 0
                            have o1 := K5.out.cell 1
                            have o2 := K5.out.cell 2
                            have o3 := K5.out.cell 3
                            have o4 := K5.out.cell 4
                            have o5 := K5.out.cell 5
                            have o6 := K5.out.cell 6
                            simp only [List.getElem?_toArray, List.getElem?_cons_succ, List.getElem?_cons_zero] at o0 o1 o2 o3 o4 o5 o6
                            have HB1 := Lib.hid (HBw.out.trans (H15.out.mono (by omega)))
                            have hne2 := hneA
                            have ha := s3c
                            have HNO := Lib.hid hno2
                            clear hs2 hE K5 hno hno2 hy 
                            go_wp2
                            have hS0 : w5.drew.cell? ⟨M, 0, none⟩ = some (.int .i64 0) ∧ w5.drew.cell? ⟨M, 1, none⟩ = some (.string sp) ∧ w5.drew.cell? ⟨M, 2, none⟩ = some (.string l) ∧ w5.drew.cell? ⟨M, 3, none⟩ = some (.slice (some b) acc.length cv) ∧ w5.drew.cell? ⟨M, 4, none⟩ = some (.slice none 0 0) ∧ w5.drew.cell? ⟨M, 5, none⟩ = some (.string ⟨#[]⟩) ∧ w5.drew.cell? ⟨M, 6, none⟩ = some (.int .i64 n.at') ∧ w5.drew.cell? ⟨wo.heap.size, 3, none⟩ = some (.int .i64 at') := ⟨o0, o1, o2, o3, o4, o5, o6, ha⟩
                            have hSs := fun y0 y1 y2 y3 y4 y5 y6 => (show _ ∧ _ ∧ _ ∧ _ ∧ _ ∧ _ ∧ _ ∧ _ from ⟨set_cell7 (R := R) o0 hne1 y0 y1 y2 y3 y4 y5 y6, set_cell7 (R := R) o1 hne1 y0 y1 y2 y3 y4 y5 y6, set_cell7 (R := R) o2 hne1 y0 y1 y2 y3 y4 y5 y6, set_cell7 (R := R) o3 hne1 y0 y1 y2 y3 y4 y5 y6, set_cell7 (R := R) o4 hne1 y0 y1 y2 y3 y4 y5 y6, set_cell7 (R := R) o5 hne1 y0 y1 y2 y3 y4 y5 y6, set_cell7 (R := R) o6 hne1 y0 y1 y2 y3 y4 y5 y6, set_cell7 (R := R) ha hne2 y0 y1 y2 y3 y4 y5 y6⟩)
                            refine wp_region_late (S := fun w' => w'.cell? ⟨M, 0, none⟩ = some (.int .i64 0) ∧ w'.cell? ⟨M, 1, none⟩ = some (.string sp) ∧ w'.cell? ⟨M, 2, none⟩ = some (.string l) ∧ w'.cell? ⟨M, 3, none⟩ = some (.slice (some b) acc.length cv) ∧ w'.cell? ⟨M, 4, none⟩ = some (.slice none 0 0) ∧ w'.cell? ⟨M, 5, none⟩ = some (.string ⟨#[]⟩) ∧ w'.cell? ⟨M, 6, none⟩ = some (.int .i64 n.at') ∧ w'.cell? ⟨wo.heap.size, 3, none⟩ = some (.int .i64 at')) (D := []) (by kernel_rfl) ?_
                            refine anyL_take (i := 0) (oi := { dst := some 185, op := Go.Op.load 29 (Go.Operand.tmp 8), type := 29, pos := "ref.go:92", after := #[], guard := none }) (v := ?_) rfl (by decide) (by kernel_rfl) (by kernel_rfl) (by kernel_rfl) (by kernel_rfl) (fun _ _ _ h => h) (Or.inl ⟨by rfl, ?_⟩) hS0 ?_
                            rotate_left
                            · intro wz hSz
                              obtain ⟨z0, z1, z2, z3, z4, z5, z6, z7⟩ := hSz
                              go_simp
                              (try with_reducible rfl)
                            try simp only [Act.put, List.setIfInBounds_toArray, List.set_cons_zero, List.set_cons_succ]
                            refine anyL_take (i := 1) (oi := { dst := some 186, op := Go.Op.fieldAddr 43 (Go.Operand.tmp 21) 3, type := 0, pos := "ref.go:92", after := #[{ on := 4, ground := Go.Ground.gcOnly Go.Departure.lateStores }], guard := none }) (v := ?_) rfl (by decide) (by kernel_rfl) (by kernel_rfl) (by kernel_rfl) (by kernel_rfl) (fun _ _ _ h => h) (Or.inl ⟨by rfl, ?_⟩) hS0 ?_
                            rotate_left
                            · intro wz hSz
                              obtain ⟨z0, z1, z2, z3, z4, z5, z6, z7⟩ := hSz
                              go_simp
                              (try with_reducible rfl)
                            try simp only [Act.put, List.setIfInBounds_toArray, List.set_cons_zero, List.set_cons_succ]
                            refine anyL_take (i := 2) (oi := { dst := some 187, op := Go.Op.load 3 (Go.Operand.tmp 186), type := 3, pos := "ref.go:92", after := #[{ on := 1, ground := Go.Ground.data }, { on := 4, ground := Go.Ground.gcOnly Go.Departure.lateStores }], guard := none }) (v := ?_) rfl (by decide) (by kernel_rfl) (by kernel_rfl) (by kernel_rfl) (by kernel_rfl) (fun _ _ _ h => h) (Or.inl ⟨by rfl, ?_⟩) hS0 ?_
                            rotate_left
                            · intro wz hSz
                              obtain ⟨z0, z1, z2, z3, z4, z5, z6, z7⟩ := hSz
                              go_simp
                              (try with_reducible rfl)
                            try simp only [Act.put, List.setIfInBounds_toArray, List.set_cons_zero, List.set_cons_succ]
                            refine anyL_ready (rs := [3]) (by kernel_rfl) (by simp) ?_
                            refine AllL.cons (o := { dst := none, op := Go.Op.store 29 (Go.Operand.tmp 4) (Go.Operand.tmp 185), type := 0, pos := "ref.go:92", after := #[{ on := 0, ground := Go.Ground.data }, { on := 0, ground := Go.Ground.phase }, { on := 1, ground := Go.Ground.textOnly Go.Departure.lateStores }, { on := 2, ground := Go.Ground.textOnly Go.Departure.lateStores }], guard := none }) rfl (fun K hK => ?_) AllL.nil
                            go_simp
                            refine hK _ _ (hSs _ _ _ _ _ _ _) ?_
                            clear hK K
                            try simp only [Act.put, List.setIfInBounds_toArray, List.set_cons_zero, List.set_cons_succ]
                            refine anyL_take (i := 4) (oi := { dst := some 5, op := Go.Op.assign (Go.Operand.const (Go.Value.slice none 0 0)), type := 109, pos := "ref.go:92", after := #[{ on := 3, ground := Go.Ground.chain }, { on := 0, ground := Go.Ground.phase }, { on := 1, ground := Go.Ground.textOnly Go.Departure.lateStores }, { on := 2, ground := Go.Ground.textOnly Go.Departure.lateStores }, { on := 3, ground := Go.Ground.phase }], guard := none }) (v := ?_) rfl (by decide) (by kernel_rfl) (by kernel_rfl) (by kernel_rfl) (by kernel_rfl) (fun _ _ _ h => h) (Or.inl ⟨by rfl, ?_⟩) (hSs _ _ _ _ _ _ _) ?_
                            rotate_left
                            · intro wz hSz
                              obtain ⟨z0, z1, z2, z3, z4, z5, z6, z7⟩ := hSz
                              go_simp
                              (try with_reducible rfl)
                            try simp only [Act.put, List.setIfInBounds_toArray, List.set_cons_zero, List.set_cons_succ]
                            refine anyL_take (i := 5) (oi := { dst := some 6, op := Go.Op.assign (Go.Operand.tmp 187), type := 3, pos := "ref.go:92", after := #[{ on := 2, ground := Go.Ground.data }, { on := 4, ground := Go.Ground.chain }, { on := 0, ground := Go.Ground.phase }, { on := 1, ground := Go.Ground.phase }, { on := 2, ground := Go.Ground.phase }, { on := 3, ground := Go.Ground.phase }, { on := 4, ground := Go.Ground.phase }], guard := none }) (v := ?_) rfl (by decide) (by kernel_rfl) (by kernel_rfl) (by kernel_rfl) (by kernel_rfl) (fun _ _ _ h => h) (Or.inl ⟨by rfl, ?_⟩) (hSs _ _ _ _ _ _ _) ?_
                            rotate_left
                            · intro wz hSz
                              obtain ⟨z0, z1, z2, z3, z4, z5, z6, z7⟩ := hSz
                              go_simp
                              (try with_reducible rfl)
                            try simp only [Act.put, List.setIfInBounds_toArray, List.set_cons_zero, List.set_cons_succ]
                            refine anyL_take (i := 6) (oi := { dst := some 7, op := Go.Op.assign (Go.Operand.const (Go.Value.int Go.IntKind.i64 10)), type := 3, pos := "ref.go:92", after := #[{ on := 5, ground := Go.Ground.chain }, { on := 0, ground := Go.Ground.phase }, { on := 1, ground := Go.Ground.phase }, { on := 2, ground := Go.Ground.phase }, { on := 3, ground := Go.Ground.phase }, { on := 4, ground := Go.Ground.phase }, { on := 5, ground := Go.Ground.phase }], guard := none }) (v := ?_) rfl (by decide) (by kernel_rfl) (by kernel_rfl) (by kernel_rfl) (by kernel_rfl) (fun _ _ _ h => h) (Or.inl ⟨by rfl, ?_⟩) (hSs _ _ _ _ _ _ _) ?_
                            rotate_left
                            · intro wz hSz
                              obtain ⟨z0, z1, z2, z3, z4, z5, z6, z7⟩ := hSz
                              go_simp
                              (try with_reducible rfl)
                            try simp only [Act.put, List.setIfInBounds_toArray, List.set_cons_zero, List.set_cons_succ]
                            refine anyL_done (by kernel_rfl) ?_ _
                            go_wp2
                            refine bodyPost_ret (v := .tuple #[.agg #[.int .i64 0, .string sp, .string l, .slice (some b) acc.length cv, .slice none 0 0, .string ⟨#[]⟩, .int .i64 n.at'], .slice none 0 0, .int .i64 at', .int .i64 10]) (by simp [results, Tryd.results54, go_sem, cell_set_same, r0, r1, r2, r3, r4, r5, r6]) rfl ?_
                            exact ⟨by rw [HQ.out.1]; exact (below7 HB1.out hhs _ _ _ _ _ _ _).drew, .inl ⟨_, _, _, _, _, _, _, by decide, HE.out, rfl⟩⟩
                          · have t1 := str_ne2 e2
                            have t2 := str_ne3 e2
                            subst e1
                            have hnx : ∀ k (hk : k < acc.length), k < j + 1 → ¬ (acc[k].sp = ysp ∧ acc[k].nm = loc) := fun k hk hkj => by
                              rcases Nat.lt_or_ge k j with h | h
                              · exact hno2 k hk h
                              · obtain rfl : k = j := by omega
                                rw [hy]; exact fun e => e2 e.2
                            have HNX := Lib.hid hnx
                            clear hnx hno hno2 hy e2 
                            go_wp2
                            go_roundw
                            case rel => exact ⟨j + 1, by omega, by go_num, HNX.out, trivial⟩
                            case measure => simp [intOf]; omega
                        · have t1 := str_ne2 e1
                          have t2 := str_ne3 e1
                          have hnx : ∀ k (hk : k < acc.length), k < j + 1 → ¬ (acc[k].sp = s2 ∧ acc[k].nm = loc) := fun k hk hkj => by
                            rcases Nat.lt_or_ge k j with h | h
                            · exact hno2 k hk h
                            · obtain rfl : k = j := by omega
                              rw [hy]; exact fun e => e1 e.1
                          have HNX := Lib.hid hnx
                          clear hnx hno hno2 hy e1
                          go_wp2
                          go_roundw
                          case rel => exact ⟨j + 1, by omega, by go_num, HNX.out, trivial⟩
                          case measure => simp [intOf]; omega
                      · obtain rfl : j = acc.length := by omega
                        have hjz : ¬ (acc.length : Int) < (acc.length : Int) := by omega
                        have hs2 := HS1.out
                        rw [if_neg (fun ⟨x, hx, h1, h2⟩ => by
                          obtain ⟨k, hk, rfl⟩ := List.getElem_of_mem hx
                          exact hno k hk hk ⟨h1, h2⟩)] at hs2
                        have HS2 := Lib.hid hs2
                        have row5 := HR5.out
                        clear hs2 hno
                        go_wp2_with (at_builtin; refine wpList_append_own _ rfl _ _ 26 rfl W3.heap.size 43 j0 (.agg #[.string ⟨#[]⟩, .string ⟨#[]⟩, .string ⟨#[]⟩, .int .i64 0]) 4 56 Tryd.underlying26 hj0 hj1 hj3 hj4 rfl (by decide) (.slice pv acc.length cv) acc.length (attrsCells acc) rfl (row5.alloc _) ⟨w5.heap.size, 0, none⟩ 1 1 (attrCells ⟨s2, loc, va, at'⟩) rfl rfl (attr_new w5 _ ⟨s2, loc, va, at'⟩) (attr_one _) (by unfold maxLen; omega) (by omega) (by simp; omega) ?_)
                        intro v' w6 hown6 hgr6 _
                        obtain ⟨A', c', rfl⟩ := own_form hown6
                        have hrk : ∀ k, (Value.slice pv acc.length cv).ownBlock = some k → W3.heap.size ≤ k := fun k hk => (row_kind row5 k hk).1
                        have K6 := (HK5.out.below ((Below.refl _ _).alloc (Nat.le_refl _) (.cells #[.string s2, .string loc, .string va, .int .i64 at'] 43))).grown hgr6 hrk (by omega) (by omega) (by omega)
                        have P6 := ((HKP.out.more H15.out).alloc (.cells #[.string s2, .string loc, .string va, .int .i64 at'] 43)).grown hgr6 hrk
                        have o3 := K6.out.cell 3
                        simp only [List.getElem?_toArray, List.getElem?_cons_succ, List.getElem?_cons_zero] at o3
                        have q3 := K6.out.fr 3
                        have K7 : HB n (some a) ca pk ck hs R M sp l (.slice A' (acc ++ [(⟨s2, loc, va, at'⟩ : AttrD)]).length c') (w6.setCell ⟨M, 3, none⟩ (.slice A' (acc.length + 1) c')) := by
                          rw [List.length_append, List.length_singleton]
                          exact ⟨K6.nod.own (q := ⟨M, 3, none⟩) (Ne.symm hne3) _, K6.res.own (q := ⟨M, 3, none⟩) hne1 _, K6.out.set 3 _⟩
                        have row7 : (w6.setCell ⟨M, 3, none⟩ (.slice A' (acc.length + 1) c')).ownsRow W3.heap.size 43 4 (.slice A' (acc ++ [(⟨s2, loc, va, at'⟩ : AttrD)]).length c') (acc ++ [(⟨s2, loc, va, at'⟩ : AttrD)]).length (attrsCells (acc ++ [(⟨s2, loc, va, at'⟩ : AttrD)])) := by
                          rw [List.length_append, List.length_singleton, attrsCells_app, show attrsCells [(⟨s2, loc, va, at'⟩ : AttrD)] = attrCells ⟨s2, loc, va, at'⟩ by simp [attrsCells]]
                          exact ((Keep.refl M w6).set 3 _).row hown6 (by omega)
                        have HN := Lib.hid (And.intro K7 (And.intro row7 (P6.set 3 (.slice A' (acc.length + 1) c'))))
                        clear K7 row7 P6 K6 hown6 hgr6 row5 hrk s2c s3c m3
                        go_wp2
                        clear o3 q3 HR5 H15 HAC HK5 HKA5
                        go_roundw
                        case rel => exact ⟨i + 1, acc ++ [⟨s2, loc, va, at'⟩], A', c', by omega, by go_num, by rw [List.length_append, List.length_singleton]; omega, HS2.out, HN.out.1, HN.out.2.1, HN.out.2.2⟩
                        case measure => simp [intOf]; omega
            · obtain rfl : i = n.al.length := by omega
              have hiz : ¬ (n.al.length : Int) < (n.al.length : Int) := by omega
              rw [List.drop_length, attrsP] at hat
              have hE3 := HE2.out
              rw [hat, if_neg (by simp)] at hE3
              simp only at hE3
              have HE3 := Lib.hid hE3
              obtain ⟨⟨r0, r1, r2, r3, r4, r5, r6⟩, g0, g1, g2, g3, g4, g5, g6⟩ := Kr.res.seven
              have o0 := Kr.out.cell 0
              have o1 := Kr.out.cell 1
              have o2 := Kr.out.cell 2
              have o3 := Kr.out.cell 3
              have o4 := Kr.out.cell 4
              have o5 := Kr.out.cell 5
              have o6 := Kr.out.cell 6
              simp only [List.getElem?_toArray, List.getElem?_cons_succ, List.getElem?_cons_zero] at o0 o1 o2 o3 o4 o5 o6
              have hD4 := hkp.row HD3.out (by omega)
              have HD4 := Lib.hid hD4
              have HROW := Lib.hid hrow
              have HBw := Lib.hid Bw
              clear hE3 hat Kr hrow Bw hkp hD4 HE2 HD3
              go_wp2
              refine bodyPost_ret (v := .tuple #[.agg #[.int .i64 0, .string sp, .string l, .slice pv acc.length cv, .slice none 0 0, .string ⟨#[]⟩, .int .i64 n.at'], .slice pd D.length cd, .int .i64 0, .int .i64 0]) (by simp [results, Tryd.results54, go_sem, cell_set_same, r0, r1, r2, r3, r4, r5, r6]) rfl ?_
              refine ⟨by rw [HQ.out.1]; exact below7 HBw.out hhs _ _ _ _ _ _ _, .inr ⟨sp, acc, pv, cv, D, pd, cd, ?_, by rw [HLC.out], row_low (row_keep7 HROW.out (by omega) _ _ _ _ _ _ _) (by have := HQ.out.1; omega), row_low (row_keep7 HD4.out (by omega) _ _ _ _ _ _ _) (by have := HQ.out.1; omega), hDl⟩⟩
              rw [HLC.out]
              exact HE3.out
end Go.Proofs.YtoehcholbcchcaaDoor
end
