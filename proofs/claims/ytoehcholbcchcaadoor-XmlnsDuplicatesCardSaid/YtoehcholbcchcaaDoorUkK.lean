/- Packed from the texts NsT NsU. -/
import Derived.Test.YtoehcholbcchcaaDoorUkF
import Derived.Test.YtoehcholbcchcaaDoorUkJ
section
namespace Go.Proofs.YtoehcholbcchcaaDoor
open Go.RowKit
def doc1 : ByteArray := ⟨#[60, 112, 58, 97, 32, 120, 109, 108, 110, 115, 58, 112, 61, 34, 117, 34, 32, 98, 61, 34, 49, 34, 32, 112, 58, 99, 61, 34, 50, 34, 47, 62]⟩
def doc2 : ByteArray := ⟨#[60, 112, 58, 97, 47, 62]⟩
def doc3 : ByteArray := ⟨#[60, 97, 32, 120, 58, 98, 61, 34, 34, 47, 62]⟩
def exQ1 : NodeD := .mk 0 noB ⟨#[112, 58, 97]⟩ [⟨noB, ⟨#[120, 109, 108, 110, 115, 58, 112]⟩, ⟨#[117]⟩, 5⟩, ⟨noB, ⟨#[98]⟩, ⟨#[49]⟩, 17⟩, ⟨noB, ⟨#[112, 58, 99]⟩, ⟨#[50]⟩, 23⟩] [] noB 0
def exQ2 : NodeD := .mk 0 noB ⟨#[112, 58, 97]⟩ [] [] noB 0
def exQ3 : NodeD := .mk 0 noB ⟨#[97]⟩ [⟨noB, ⟨#[120, 58, 98]⟩, noB, 3⟩] [] noB 0
def exR1 : NodeD := .mk 0 ⟨#[117]⟩ ⟨#[97]⟩ [⟨noB, ⟨#[98]⟩, ⟨#[49]⟩, 17⟩, ⟨⟨#[117]⟩, ⟨#[99]⟩, ⟨#[50]⟩, 23⟩] [] noB 0
theorem nsx_1 : parseP doc1 = (exQ1, 32, 0) := by kernel_rfl
theorem nsx_2 : parseP doc2 = (exQ2, 6, 0) := by kernel_rfl
theorem nsx_3 : parseP doc3 = (exQ3, 11, 0) := by kernel_rfl
theorem nsy_1 : resP [] exQ1 = (exR1, 0, 0) := by kernel_rfl
theorem nsy_2 : resP [] exQ2 = (zeroN, 0, 13) := by kernel_rfl
theorem nsy_3 : resP [] exQ3 = (zeroN, 3, 13) := by kernel_rfl
theorem nsz_1 : splitP ⟨#[97, 58, 98]⟩ = (⟨#[97]⟩, ⟨#[98]⟩, true) := by kernel_rfl
def prsP (s : ByteArray) : NodeD × Int := if 3000 < s.size then (zeroN, 0) else if (parseP s).2.2 ≠ 0 then (zeroN, 0) else ((parseP s).1, 1)
def PrsR (R : NodeD × Int) (w : World) (e : Ending) (w' : World) : Prop := ∃ v, e = .returned (.tuple #[v, .int .i64 R.2]) ∧ NodeIs w' R.1 v ∧ Below w.heap.size w w'
set_option maxRecDepth 100000 in
set_option maxHeartbeats 4000000 in
theorem la_parsed (s : ByteArray) (w : World) : Calls Tryd.prog 12 #[.string s] w fun e w' => PrsR (prsP s) w e w' := by
  have hP : prsP s = if 3000 < s.size then (zeroN, 0) else if (parseP s).2.2 ≠ 0 then (zeroN, 0) else ((parseP s).1, 1) := rfl
  obtain ⟨W, hW⟩ : ∃ W, W = w.alloc (.cells #[.int .i64 0, .string ⟨#[]⟩, .string ⟨#[]⟩, .slice none 0 0, .slice none 0 0, .string ⟨#[]⟩, .int .i64 0] 29) := ⟨_, rfl⟩
  have kR : Blk W w.heap.size nodeZs 29 := by rw [hW]; exact Blk.new w _ _
  have bR : Below w.heap.size w W := by rw [hW]; exact (Below.refl _ _).alloc (Nat.le_refl _) _
  have hzW : W.heap.size = w.heap.size + 1 := by rw [hW]; simp
  have HW := Lib.hid hW
  have HK := Lib.hid kR
  have HB := Lib.hid bR
  by_cases hl : 3000 < s.size
  · rw [if_pos hl] at hP
    rw [hP]
    have hli : (3000 : Int) < (s.size : Int) := by omega
    obtain ⟨⟨r0, r1, r2, r3, r4, r5, r6⟩, k0, k1, k2, k3, k4, k5, k6⟩ := kR.seven
    clear hP hl kR bR hW
    go_enter Tryd.func12, Tryd.ntmps12
    go_upto_region 1 with fail
    simp only [← HW.out]
    go_wp2
    refine bodyPost_ret (v := .tuple #[.agg #[.int .i64 0, .string ⟨#[]⟩, .string ⟨#[]⟩, .slice none 0 0, .slice none 0 0, .string ⟨#[]⟩, .int .i64 0], .int .i64 0]) (by simp [results, Tryd.results12, go_sem, cell_set_same, r0, r1, r2, r3, r4, r5, r6]) rfl ?_
    have PF := part_set7 (Part.of (X := fun b => b = w.heap.size) HB.out) (b := w.heap.size) (.inl rfl) 0 (.int .i64 0) (.string ⟨#[]⟩) (.string ⟨#[]⟩) (.slice none 0 0) (.slice none 0 0) (.string ⟨#[]⟩) (.int .i64 0)
    exact ⟨_, rfl, zero_le7 _, PF.below (Below.refl _ _) (fun b hb => by omega) (Nat.le_refl _)⟩
  · rw [if_neg hl] at hP
    have hli : (s.size : Int) ≤ 3000 := by omega
    have cP := tref_ParseX [w.heap.size] s W (by omega) (fun b hb => by simp at hb; omega)
    have hpz := parse_bad s
    obtain ⟨R, hR⟩ : ∃ R, parseP s = R := ⟨_, rfl⟩
    rw [hR] at hP cP hpz
    clear hl kR bR hW hR
    go_enter Tryd.func12, Tryd.ntmps12
    go_upto_region 1 with fail
    simp only [← HW.out]
    go_wp2_with fail
    refine cP.mono ?_
    rintro e w1 ⟨v1, rfl, hn1, b1⟩
    obtain ⟨pa, ca, pk, ck, rfl⟩ := node_form hn1
    have hz1 := b1.size
    have bA : Below w1.heap.size w1 (w1.alloc (.cells #[.int .i64 R.1.kind, .string R.1.sp, .string R.1.nm, .slice pa R.1.al.length ca, .slice pk R.1.kids.length ck, .string R.1.tx, .int .i64 R.1.at'] 29)) := (Below.refl _ _).alloc (Nat.le_refl _) _
    have kA := (HK.out.more b1).more bA
    obtain ⟨⟨r0, r1, r2, r3, r4, r5, r6⟩, k0, k1, k2, k3, k4, k5, k6⟩ := kA.seven
    have B2 := (HB.out.trans (b1.mono (by omega))).trans (bA.mono (by omega))
    have HN := Lib.hid (hn1.go (Goes.below (L := [w.heap.size]) bA))
    have HB2 := Lib.hid B2
    clear b1 bA kA B2 hn1
    by_cases her : R.2.2 = 0
    · rw [if_neg (by rw [her]; decide)] at hP
      have HP := Lib.hid hP
      have herb : (R.2.2 != 0) = false := by rw [her]; rfl
      clear hP her
      go_wp2
      refine bodyPost_ret (v := .tuple #[.agg #[.int .i64 R.1.kind, .string R.1.sp, .string R.1.nm, .slice pa R.1.al.length ca, .slice pk R.1.kids.length ck, .string R.1.tx, .int .i64 R.1.at'], .int .i64 1]) (by simp [results, Tryd.results12, go_sem, cell_set_same, r0, r1, r2, r3, r4, r5, r6]) rfl ?_
      rw [HP.out]
      have PF := part_set7 (Part.refl (fun b => b = w.heap.size) (w1.alloc (.cells #[.int .i64 R.1.kind, .string R.1.sp, .string R.1.nm, .slice pa R.1.al.length ca, .slice pk R.1.kids.length ck, .string R.1.tx, .int .i64 R.1.at'] 29))) (b := w.heap.size) (.inl rfl) 0 (.int .i64 R.1.kind) (.string R.1.sp) (.string R.1.nm) (.slice pa R.1.al.length ca) (.slice pk R.1.kids.length ck) (.string R.1.tx) (.int .i64 R.1.at')
      refine ⟨_, rfl, ?_, PF.below HB2.out (fun b hb => by omega) (by simp; omega)⟩
      have h9 := HN.out.go (L' := []) (fun b hb hn => ⟨by simp, PF.block b hb (fun e => hn (by simp [e]))⟩)
      rw [holes_nil] at h9
      exact h9
    · rw [if_pos her] at hP
      have HP := Lib.hid hP
      have herb : (R.2.2 != 0) = true := by simpa using her
      clear hP her
      go_wp2
      refine bodyPost_ret (v := .tuple #[.agg #[.int .i64 0, .string ⟨#[]⟩, .string ⟨#[]⟩, .slice none 0 0, .slice none 0 0, .string ⟨#[]⟩, .int .i64 0], .int .i64 0]) (by simp [results, Tryd.results12, go_sem, cell_set_same, r0, r1, r2, r3, r4, r5, r6]) rfl ?_
      rw [HP.out]
      have PF := part_set7 (Part.refl (fun b => b = w.heap.size) (w1.alloc (.cells #[.int .i64 R.1.kind, .string R.1.sp, .string R.1.nm, .slice pa R.1.al.length ca, .slice pk R.1.kids.length ck, .string R.1.tx, .int .i64 R.1.at'] 29))) (b := w.heap.size) (.inl rfl) 0 (.int .i64 0) (.string ⟨#[]⟩) (.string ⟨#[]⟩) (.slice none 0 0) (.slice none 0 0) (.string ⟨#[]⟩) (.int .i64 0)
      exact ⟨_, rfl, zero_le7 _, PF.below HB2.out (fun b hb => by omega) (by simp; omega)⟩
end Go.Proofs.YtoehcholbcchcaaDoor
end
section
namespace Go.Proofs.YtoehcholbcchcaaDoor
open Go.RowKit
theorem q1_val {w : World} {v : Value} (h : NodeIs w exQ1 v) : ∃ pa ca pk ck, v = .agg #[.int .i64 0, .string ⟨#[]⟩, .string ⟨#[112, 58, 97]⟩, .slice pa 3 ca, .slice pk 0 ck, .string ⟨#[]⟩, .int .i64 0] := node_form h
theorem q2_val {w : World} {v : Value} (h : NodeIs w exQ2 v) : ∃ pa ca pk ck, v = .agg #[.int .i64 0, .string ⟨#[]⟩, .string ⟨#[112, 58, 97]⟩, .slice pa 0 ca, .slice pk 0 ck, .string ⟨#[]⟩, .int .i64 0] := node_form h
theorem q3_val {w : World} {v : Value} (h : NodeIs w exQ3 v) : ∃ pa ca pk ck, v = .agg #[.int .i64 0, .string ⟨#[]⟩, .string ⟨#[97]⟩, .slice pa 1 ca, .slice pk 0 ck, .string ⟨#[]⟩, .int .i64 0] := node_form h
theorem z_val {w : World} {B : Nat} {v : Value} (h : FreshIs w B zeroN v) : ∃ pa ca pk ck, v = .agg #[.int .i64 0, .string ⟨#[]⟩, .string ⟨#[]⟩, .slice pa 0 ca, .slice pk 0 ck, .string ⟨#[]⟩, .int .i64 0] := fresh_val h
theorem r1_val {w : World} {B : Nat} {v : Value} (h : FreshIs w B exR1 v) : ∃ g ca pk ck, v = .agg #[.int .i64 0, .string ⟨#[117]⟩, .string ⟨#[97]⟩, .slice (some ⟨g, 0, none⟩) 2 ca, .slice pk 0 ck, .string ⟨#[]⟩, .int .i64 0] ∧ w.cell? ⟨g, 0, none⟩ = some (.string ⟨#[]⟩) ∧ w.cell? ⟨g, 1, none⟩ = some (.string ⟨#[98]⟩) ∧ w.cell? ⟨g, 4, none⟩ = some (.string ⟨#[117]⟩) ∧ w.cell? ⟨g, 5, none⟩ = some (.string ⟨#[99]⟩) := by
  rw [fresh_eq] at h
  obtain ⟨va, vk, xs, rfl, ha, hk, _⟩ := h
  obtain ⟨pk, ck, rfl⟩ := row_val hk
  have hf := ha.form (by decide)
  obtain ⟨g, cap, rfl, _⟩ := hf
  have hc := ha.cells (g := g) rfl
  have hadd : ∀ j, (⟨g, 0, none⟩ : Addr).add j = ⟨g, j, none⟩ := fun j => by unfold Addr.add; split <;> simp_all
  refine ⟨g, cap, pk, ck, rfl, ?_, ?_, ?_, ?_⟩
  · have := hc 0 _ rfl; rwa [hadd] at this
  · have := hc 1 _ rfl; rwa [hadd] at this
  · have := hc 4 _ rfl; rwa [hadd] at this
  · have := hc 5 _ rfl; rwa [hadd] at this
theorem doc_ok (s : ByteArray) (n : NodeD) (hs : s.size ≤ 3000) (h : (parseP s).1 = n) : n.cnt ≤ 1000000 ∧ n.acnt ≤ 10000000 ∧ NmOk 100000 n ∧ StrOk 40000000000 n := by
  subst h
  have h1 := parse_small s (by omega)
  exact ⟨by omega, by omega, parse_nm s (by omega), parse_str s (by omega)⟩
def AX (b g ca : Nat) (w : World) : Prop := w.cell? ⟨b, 1, none⟩ = some (.string ⟨#[117]⟩) ∧ w.cell? ⟨b, 2, none⟩ = some (.string ⟨#[97]⟩) ∧ w.cell? ⟨b, 3, none⟩ = some (.slice (some ⟨g, 0, none⟩) 2 ca) ∧ w.cell? ⟨g, 0, none⟩ = some (.string ⟨#[]⟩) ∧ w.cell? ⟨g, 1, none⟩ = some (.string ⟨#[98]⟩) ∧ w.cell? ⟨g, 4, none⟩ = some (.string ⟨#[117]⟩) ∧ w.cell? ⟨g, 5, none⟩ = some (.string ⟨#[99]⟩)
theorem AX.below {b g ca : Nat} {w w' : World} (h : AX b g ca w) (hb : Below w.heap.size w w') : AX b g ca w' := by
  obtain ⟨h1, h2, h3, h4, h5, h6, h7⟩ := h
  exact ⟨(hb.cell (kblock_lt h1)).trans h1, (hb.cell (kblock_lt h2)).trans h2, (hb.cell (kblock_lt h3)).trans h3, (hb.cell (kblock_lt h4)).trans h4, (hb.cell (kblock_lt h5)).trans h5, (hb.cell (kblock_lt h6)).trans h6, (hb.cell (kblock_lt h7)).trans h7⟩
def BX (n : NodeD) (b : Nat) (c0 c1 c2 c3 c4 c5 c6 : Value) (w : World) : Prop := Blk w b #[c0, c1, c2, c3, c4, c5, c6] 29 ∧ NodeIs w n (.agg #[c0, c1, c2, c3, c4, c5, c6])
theorem BX.below {n : NodeD} {b : Nat} {c0 c1 c2 c3 c4 c5 c6 : Value} {w w' : World} (h : BX n b c0 c1 c2 c3 c4 c5 c6 w) (hb : Below w.heap.size w w') : BX n b c0 c1 c2 c3 c4 c5 c6 w' := ⟨h.1.more hb, NodeIs.below hb _ _ h.2⟩
theorem BX.new {n : NodeD} {c0 c1 c2 c3 c4 c5 c6 : Value} {w : World} (h : NodeIs w n (.agg #[c0, c1, c2, c3, c4, c5, c6])) : BX n w.heap.size c0 c1 c2 c3 c4 c5 c6 (w.alloc (.cells #[c0, c1, c2, c3, c4, c5, c6] 29)) := ⟨Blk.new w _ _, NodeIs.below ((Below.refl _ _).alloc (Nat.le_refl _) _) _ _ h⟩
theorem BX.cells {n : NodeD} {b : Nat} {c0 c1 c2 c3 c4 c5 c6 : Value} {w : World} (h : BX n b c0 c1 c2 c3 c4 c5 c6 w) : w.cell? ⟨b, 0, none⟩ = some c0 ∧ w.cell? ⟨b, 1, none⟩ = some c1 ∧ w.cell? ⟨b, 2, none⟩ = some c2 ∧ w.cell? ⟨b, 3, none⟩ = some c3 ∧ w.cell? ⟨b, 4, none⟩ = some c4 ∧ w.cell? ⟨b, 5, none⟩ = some c5 ∧ w.cell? ⟨b, 6, none⟩ = some c6 :=
  ⟨h.1.cell 0, h.1.cell 1, h.1.cell 2, h.1.cell 3, h.1.cell 4, h.1.cell 5, h.1.cell 6⟩
theorem ns_box {w w1 : World} (b : Below w.heap.size w w1) (o : Obj) : Below w.heap.size w (w1.alloc o) := b.alloc b.size o
set_option maxRecDepth 100000 in
set_option maxHeartbeats 8000000 in
theorem la_alive (w : World) (hT : NsT w) : Calls Tryd.prog 9 #[] w fun e w' => e = .returned (.bool true) ∧ Below w.heap.size w w' := by
  have p1 : prsP doc1 = (exQ1, 1) := by unfold prsP; rw [nsx_1]; rfl
  have p2 : prsP doc2 = (exQ2, 1) := by unfold prsP; rw [nsx_2]; rfl
  have p3 : prsP doc3 = (exQ3, 1) := by unfold prsP; rw [nsx_3]; rfl
  have c1 : ∀ wx, _ := fun wx => la_parsed doc1 wx
  have c2 : ∀ wx, _ := fun wx => la_parsed doc2 wx
  have c3 : ∀ wx, _ := fun wx => la_parsed doc3 wx
  rw [p1] at c1
  rw [p2] at c2
  rw [p3] at c3
  obtain ⟨o11, o12, o13, o14⟩ := doc_ok doc1 exQ1 (by decide) (by rw [nsx_1])
  obtain ⟨o21, o22, o23, o24⟩ := doc_ok doc2 exQ2 (by decide) (by rw [nsx_2])
  obtain ⟨o31, o32, o33, o34⟩ := doc_ok doc3 exQ3 (by decide) (by rw [nsx_3])
  have e1 : ∀ v wx, NodeIs wx exQ1 v → NsT wx → _ := fun v wx hn ht => ns_Resolve exQ1 v wx hn ht o11 o12 o13 o14
  have e2 : ∀ v wx, NodeIs wx exQ2 v → NsT wx → _ := fun v wx hn ht => ns_Resolve exQ2 v wx hn ht o21 o22 o23 o24
  have e3 : ∀ v wx, NodeIs wx exQ3 v → NsT wx → _ := fun v wx hn ht => ns_Resolve exQ3 v wx hn ht o31 o32 o33 o34
  rw [nsy_1] at e1
  rw [nsy_2] at e2
  rw [nsy_3] at e3
  have eS : ∀ wx, NsT wx → _ := fun wx ht => ns_Split ⟨#[97, 58, 98]⟩ wx (by decide) ht
  rw [nsz_1] at eS
  unfold doc1 at c1
  unfold doc2 at c2
  unfold doc3 at c3
  clear p1 p2 p3 o11 o12 o13 o14 o21 o22 o23 o24 o31 o32 o33 o34
  go_enter Tryd.func9, Tryd.ntmps9
  go_wp2_with fail
  refine (c1 _).mono ?_
  rintro e w1 ⟨v1, rfl, hn1, b1⟩
  obtain ⟨pa1, ca1, pk1, ck1, rfl⟩ := q1_val hn1
  have X1 := BX.new hn1
  have b1' := ns_box b1 (.cells #[.int .i64 0, .string ⟨#[]⟩, .string ⟨#[112, 58, 97]⟩, .slice pa1 3 ca1, .slice pk1 0 ck1, .string ⟨#[]⟩, .int .i64 0] 29)
  have HX1 := Lib.hid X1
  have HB1 := Lib.hid b1'
  clear X1 b1' hn1 b1
  go_wp2_with fail
  refine (c2 _).mono ?_
  rintro e w2 ⟨v2, rfl, hn2, b2⟩
  obtain ⟨pa2, ca2, pk2, ck2, rfl⟩ := q2_val hn2
  have X2 := BX.new hn2
  have b2' := ns_box b2 (.cells #[.int .i64 0, .string ⟨#[]⟩, .string ⟨#[112, 58, 97]⟩, .slice pa2 0 ca2, .slice pk2 0 ck2, .string ⟨#[]⟩, .int .i64 0] 29)
  have HX2 := Lib.hid X2
  have HX1' := Lib.hid (HX1.out.below b2')
  have HB2 := Lib.hid (HB1.out.trans (b2'.mono HB1.out.size))
  clear X2 b2' hn2 b2 HX1 HB1
  go_wp2_with fail
  refine (c3 _).mono ?_
  rintro e w3 ⟨v3, rfl, hn3, b3⟩
  obtain ⟨pa3, ca3, pk3, ck3, rfl⟩ := q3_val hn3
  have X3 := BX.new hn3
  have b3' := ns_box b3 (.cells #[.int .i64 0, .string ⟨#[]⟩, .string ⟨#[97]⟩, .slice pa3 1 ca3, .slice pk3 0 ck3, .string ⟨#[]⟩, .int .i64 0] 29)
  have X1 := HX1'.out.below b3'
  have X2 := HX2.out.below b3'
  have B3 := HB2.out.trans (b3'.mono HB2.out.size)
  obtain ⟨d0, d1, d2, d3, d4, d5, d6⟩ := X1.cells
  have cE1 := e1 _ _ X1.2 (NsT_below hT B3)
  have HX2' := Lib.hid X2
  have HX3 := Lib.hid X3
  have HB3 := Lib.hid B3
  clear X1 X2 X3 B3 b3' hn3 b3 HX1' HX2 HB2
  go_wp2_with fail
  refine cE1.mono ?_
  rintro e w4 ⟨v4, rfl, hf4, b4⟩
  obtain ⟨g, cg, pk4, ck4, rfl, g0, g1, g4, g5⟩ := r1_val hf4
  have b4' := ns_box b4 (.cells #[.int .i64 0, .string ⟨#[117]⟩, .string ⟨#[97]⟩, .slice (some ⟨g, 0, none⟩) 2 cg, .slice pk4 0 ck4, .string ⟨#[]⟩, .int .i64 0] 29)
  have bq : Below w4.heap.size w4 (w4.alloc (.cells #[.int .i64 0, .string ⟨#[117]⟩, .string ⟨#[97]⟩, .slice (some ⟨g, 0, none⟩) 2 cg, .slice pk4 0 ck4, .string ⟨#[]⟩, .int .i64 0] 29)) := (Below.refl _ _).alloc (Nat.le_refl _) _
  have kA := Blk.new w4 #[.int .i64 0, .string ⟨#[117]⟩, .string ⟨#[97]⟩, .slice (some ⟨g, 0, none⟩) 2 cg, .slice pk4 0 ck4, .string ⟨#[]⟩, .int .i64 0] 29
  have HA : Hid (AX w4.heap.size g cg (w4.alloc (.cells #[.int .i64 0, .string ⟨#[117]⟩, .string ⟨#[97]⟩, .slice (some ⟨g, 0, none⟩) 2 cg, .slice pk4 0 ck4, .string ⟨#[]⟩, .int .i64 0] 29))) := Lib.hid ⟨kA.cell 1, kA.cell 2, kA.cell 3, (bq.cell (kblock_lt g0)).trans g0, (bq.cell (kblock_lt g1)).trans g1, (bq.cell (kblock_lt g4)).trans g4, (bq.cell (kblock_lt g5)).trans g5⟩
  have X2 := HX2'.out.below b4'
  have X3 := HX3.out.below b4'
  have B4 := HB3.out.trans (b4'.mono HB3.out.size)
  obtain ⟨q0, q1, q2, q3, q4, q5, q6⟩ := X2.cells
  have cE2 := e2 _ _ X2.2 (NsT_below hT B4)
  have HX3' := Lib.hid X3
  have HB4 := Lib.hid B4
  clear X2 X3 B4 b4' hf4 b4 bq kA g0 g1 g4 g5 d0 d1 d2 d3 d4 d5 d6 cE1 HX2' HX3 HB3
  go_wp2_with fail
  refine cE2.mono ?_
  rintro e w5 ⟨v5, rfl, hf5, b5⟩
  obtain ⟨pa5, ca5, pk5, ck5, rfl⟩ := z_val hf5
  have b5' := ns_box b5 (.cells #[.int .i64 0, .string ⟨#[]⟩, .string ⟨#[]⟩, .slice pa5 0 ca5, .slice pk5 0 ck5, .string ⟨#[]⟩, .int .i64 0] 29)
  have HA5 := Lib.hid (HA.out.below b5')
  have X3 := HX3'.out.below b5'
  have B5 := HB4.out.trans (b5'.mono HB4.out.size)
  obtain ⟨d0, d1, d2, d3, d4, d5, d6⟩ := X3.cells
  have cE3 := e3 _ _ X3.2 (NsT_below hT B5)
  have HB5 := Lib.hid B5
  clear X3 B5 b5' hf5 b5 q0 q1 q2 q3 q4 q5 q6 cE2 HX3' HB4 HA
  go_wp2_with fail
  refine cE3.mono ?_
  rintro e w6 ⟨v6, rfl, hf6, b6⟩
  obtain ⟨pa6, ca6, pk6, ck6, rfl⟩ := z_val hf6
  have b6' := ns_box b6 (.cells #[.int .i64 0, .string ⟨#[]⟩, .string ⟨#[]⟩, .slice pa6 0 ca6, .slice pk6 0 ck6, .string ⟨#[]⟩, .int .i64 0] 29)
  have A6 := HA5.out.below b6'
  have B6 := HB5.out.trans (b6'.mono HB5.out.size)
  have t6 := NsT_below hT B6
  have HA6 := Lib.hid A6
  obtain ⟨x1, x2, x3, -⟩ := A6
  have HB6 := Lib.hid B6
  have cSp := eS _ t6
  clear B6 b6' hf6 b6 d0 d1 d2 d3 d4 d5 d6 cE3 HB5 HA5
  go_wp2_with fail
  refine cSp.mono ?_
  rintro e w7 ⟨rfl, b7⟩
  have A7 := HA6.out.below b7
  obtain ⟨y1, y2, y3, y4, y5, y6, y7⟩ := A7
  have HB7 := Lib.hid (HB6.out.trans (b7.mono HB6.out.size))
  clear b7 HB6 HA6 x1 x2 x3 cSp t6
  go_wp2
  exact bodyPost_ret (v := .bool true) (by simp [results, Tryd.results9, go_sem]) rfl ⟨rfl, HB7.out⟩
end Go.Proofs.YtoehcholbcchcaaDoor
end
