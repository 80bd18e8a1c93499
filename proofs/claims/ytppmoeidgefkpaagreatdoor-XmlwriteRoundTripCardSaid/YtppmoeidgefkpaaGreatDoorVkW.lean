/- Packed from the texts WrV. -/
import Derived.Test.YtppmoeidgefkpaaGreatDoorVkE
import Derived.Test.YtppmoeidgefkpaaGreatDoorVkF
import Derived.Test.YtppmoeidgefkpaaGreatDoorVkR
import Derived.Test.YtppmoeidgefkpaaGreatDoorVkU
section
namespace Go.Proofs.YtppmoeidgefkpaaGreatDoor
open Go.RowKit
theorem one_no9 {c : Prop} [Decidable c] (h : ¬ c) : oneIf (decide c) = 0 := by rw [decide_eq_false h]; rfl
theorem one_yes9 {c : Prop} [Decidable c] (h : c) : oneIf (decide c) = 1 := by rw [decide_eq_true h]; rfl
theorem sum_zero : ∀ l : List AttrD, ((l.map zeroA).map fun x => 1 + x.sp.size + x.nm.size + x.va.size).sum = (l.map fun x => 1 + x.sp.size + x.nm.size + x.va.size).sum
  | [] => rfl
  | x :: r => by
    rw [List.map_cons, List.map_cons, List.map_cons, List.sum_cons, List.sum_cons, sum_zero r]
    rfl
mutual
theorem mass_bare : ∀ n : NodeD, (stripN n).mass = n.mass
  | .mk k s nm al kids t a => by rw [stripN, NodeD.mass, NodeD.mass, sum_zero, masses_bare kids]
theorem masses_bare : ∀ l : List NodeD, masses (stripsN l) = masses l
  | [] => rfl
  | k :: r => by rw [stripsN, masses, masses, mass_bare k, masses_bare r]
end
theorem eq_mass {n m : NodeD} (h : n.eqB false m = true) : n.mass = m.mass := by rw [← mass_bare n, ← mass_bare m, (eq_bare n m).1 h]
theorem doc_size (n : NodeD) : (ofBytes (docP n)).size ≤ 6 * n.mass + 40 := by
  have h := form_len n
  rw [ofBytes_size]
  unfold docP
  rw [List.length_append, List.length_append]
  have h2 : headP.length = 39 := rfl
  have h3 : ([10] : List UInt8).length = 1 := rfl
  omega
set_option maxRecDepth 100000 in
set_option maxHeartbeats 16000000 in
theorem walk_WrRound (n : NodeD) (pa : Option Addr) (ca : Nat) (pk : Option Addr) (ck : Nat) (w : World) (hT : TokT w) (hn : NodeIs w n (.agg #[.int .i64 n.kind, .string n.sp, .string n.nm, .slice pa n.al.length ca, .slice pk n.kids.length ck, .string n.tx, .int .i64 n.at'])) (hw : n.WF) : Calls Tryz.prog 3 #[.agg #[.int .i64 n.kind, .string n.sp, .string n.nm, .slice pa n.al.length ca, .slice pk n.kids.length ck, .string n.tx, .int .i64 n.at']] w fun e w' => e = .returned (.bool true) ∧ Below w.heap.size w w' := by
  have cL := fun wx h => law_TooLarge n (.agg #[.int .i64 n.kind, .string n.sp, .string n.nm, .slice pa n.al.length ca, .slice pk n.kids.length ck, .string n.tx, .int .i64 n.at']) wx hw h
  have cA : ∀ wx, TokT wx → _ := fun wx h => wr_alive wx h.1
  have hbe : ∀ o : Obj, Below w.heap.size w (w.alloc o) := fun o => (Below.refl _ _).alloc (Nat.le_refl _) _
  have hne : ∀ o : Obj, NodeIs (w.alloc o) n _ := fun o => hn.below (hbe o)
  have hze : ∀ o : Obj, (w.alloc o).heap.size = w.heap.size + 1 := fun o => by simp
  have HB := Lib.hid (Blk.new w #[.int .i64 n.kind, .string n.sp, .string n.nm, .slice pa n.al.length ca, .slice pk n.kids.length ck, .string n.tx, .int .i64 n.at'] 25)
  have HT := Lib.hid hT
  by_cases hb : 5000 < n.wgt 0
  · rw [one_yes9 hb] at cL
    clear hw hT hb
    go_enter Tryz.func3, Tryz.ntmps3
    go_wp2_with fail
    refine (cL _ (hne _)).mono ?_
    rintro e w1 ⟨rfl, b1⟩
    have B1 := (hbe _).trans (b1.mono (by rw [hze]; omega))
    have t1 := TokT_below HT.out B1
    go_wp2_with fail
    refine (cA _ t1).mono ?_
    rintro e w2 ⟨rfl, b2⟩
    have B2 := B1.trans (b2.mono B1.size)
    go_wp2
    go_ret
    exact ⟨rfl, B2⟩
  have hm := mass_of hb
  rw [one_no9 hb] at cL
  have cC := fun wx h => wref_Check n (.agg #[.int .i64 n.kind, .string n.sp, .string n.nm, .slice pa n.al.length ca, .slice pk n.kids.length ck, .string n.tx, .int .i64 n.at']) wx (by omega) h
  by_cases he : errP n = 0
  case neg =>
    have q1 : (errP n != 0) = true := by simpa using he
    generalize errP n = EN at *
    clear hw hT hb hm he
    go_enter Tryz.func3, Tryz.ntmps3
    go_wp2_with fail
    refine (cL _ (hne _)).mono ?_
    rintro e w1 ⟨rfl, b1⟩
    have B1 := (hbe _).trans (b1.mono (by rw [hze]; omega))
    have H1 := Lib.hid (HB.out.more b1)
    have q10 : w1.cell? ⟨w.heap.size, 0, none⟩ = some (.int .i64 n.kind) := H1.out.cell 0
    have q11 : w1.cell? ⟨w.heap.size, 1, none⟩ = some (.string n.sp) := H1.out.cell 1
    have q12 : w1.cell? ⟨w.heap.size, 2, none⟩ = some (.string n.nm) := H1.out.cell 2
    have q13 : w1.cell? ⟨w.heap.size, 3, none⟩ = some (.slice pa n.al.length ca) := H1.out.cell 3
    have q14 : w1.cell? ⟨w.heap.size, 4, none⟩ = some (.slice pk n.kids.length ck) := H1.out.cell 4
    have q15 : w1.cell? ⟨w.heap.size, 5, none⟩ = some (.string n.tx) := H1.out.cell 5
    have q16 : w1.cell? ⟨w.heap.size, 6, none⟩ = some (.int .i64 n.at') := H1.out.cell 6
    have N1 := (hne _).below b1
    go_wp2_with fail
    refine (cC _ N1).mono ?_
    rintro e w2 ⟨rfl, b2⟩
    have B2 := B1.trans (b2.mono B1.size)
    have t2 := TokT_below HT.out B2
    go_wp2_with fail
    refine (cA _ t2).mono ?_
    rintro e w3 ⟨rfl, b3⟩
    have B3 := B2.trans (b3.mono B2.size)
    go_wp2
    go_ret
    exact ⟨rfl, B3⟩
  rw [he] at cC
  have hg := good_err.2 he
  obtain ⟨m, hmn, hmp⟩ := parse_doc hg
  have hds := doc_size n
  have hwr := write_good hg
  have cW := fun wx ht h => xw_Write n (.agg #[.int .i64 n.kind, .string n.sp, .string n.nm, .slice pa n.al.length ca, .slice pk n.kids.length ck, .string n.tx, .int .i64 n.at']) wx (by omega) ht h
  rw [he, hwr] at cW
  have cP := fun wx ht => xt_Parse (ofBytes (docP n)) wx (by omega) ht
  unfold ParsIs at cP
  rw [hmp] at cP
  obtain ⟨ew, ee, -⟩ := eq_write hmn
  have cM := fun wx v ht h => xw_Write m v wx (by rw [eq_mass hmn]; omega) ht h
  rw [ew, ee, he, hwr] at cM
  have cE := fun wx v h1 h2 => tref_Equal false n.wt n m (.agg #[.int .i64 n.kind, .string n.sp, .string n.nm, .slice pa n.al.length ca, .slice pk n.kids.length ck, .string n.tx, .int .i64 n.at']) v wx (Nat.le_refl _) (by have := (not_large hb).1; omega) h1 h2
  rw [eq_symm hmn] at cE
  clear hw hT hb hm he hg hds hwr hmn hmp ew ee
  generalize ofBytes (docP n) = SD at *
  go_enter Tryz.func3, Tryz.ntmps3
  go_wp2_with fail
  refine (cL _ (hne _)).mono ?_
  rintro e w1 ⟨rfl, b1⟩
  have B1 := (hbe _).trans (b1.mono (by rw [hze]; omega))
  have H1 := Lib.hid (HB.out.more b1)
  have q10 : w1.cell? ⟨w.heap.size, 0, none⟩ = some (.int .i64 n.kind) := H1.out.cell 0
  have q11 : w1.cell? ⟨w.heap.size, 1, none⟩ = some (.string n.sp) := H1.out.cell 1
  have q12 : w1.cell? ⟨w.heap.size, 2, none⟩ = some (.string n.nm) := H1.out.cell 2
  have q13 : w1.cell? ⟨w.heap.size, 3, none⟩ = some (.slice pa n.al.length ca) := H1.out.cell 3
  have q14 : w1.cell? ⟨w.heap.size, 4, none⟩ = some (.slice pk n.kids.length ck) := H1.out.cell 4
  have q15 : w1.cell? ⟨w.heap.size, 5, none⟩ = some (.string n.tx) := H1.out.cell 5
  have q16 : w1.cell? ⟨w.heap.size, 6, none⟩ = some (.int .i64 n.at') := H1.out.cell 6
  have N1 := (hne _).below b1
  have HN1 := Lib.hid N1
  clear b1 cL hne hbe HB
  go_wp2_with fail
  refine (cC _ N1).mono ?_
  rintro e w2 ⟨rfl, b2⟩
  have B2 := B1.trans (b2.mono B1.size)
  have H2 := Lib.hid (H1.out.more b2)
  have q20 : w2.cell? ⟨w.heap.size, 0, none⟩ = some (.int .i64 n.kind) := H2.out.cell 0
  have q21 : w2.cell? ⟨w.heap.size, 1, none⟩ = some (.string n.sp) := H2.out.cell 1
  have q22 : w2.cell? ⟨w.heap.size, 2, none⟩ = some (.string n.nm) := H2.out.cell 2
  have q23 : w2.cell? ⟨w.heap.size, 3, none⟩ = some (.slice pa n.al.length ca) := H2.out.cell 3
  have q24 : w2.cell? ⟨w.heap.size, 4, none⟩ = some (.slice pk n.kids.length ck) := H2.out.cell 4
  have q25 : w2.cell? ⟨w.heap.size, 5, none⟩ = some (.string n.tx) := H2.out.cell 5
  have q26 : w2.cell? ⟨w.heap.size, 6, none⟩ = some (.int .i64 n.at') := H2.out.cell 6
  have N2 := HN1.out.below b2
  have HN2 := Lib.hid N2
  have t2 := TokT_below HT.out B2
  clear b2 cC HN1 B1 N1 H1 q10 q11 q12 q13 q14 q15 q16
  go_wp2_with fail
  refine (cW _ t2.1 N2).mono ?_
  rintro e w3 ⟨rfl, b3⟩
  have B3 := B2.trans (b3.mono B2.size)
  have H3 := Lib.hid (H2.out.more b3)
  have HN3 := Lib.hid (HN2.out.below b3)
  have t3 := TokT_below HT.out B3
  clear b3 cW HN2 B2 N2 H2 q20 q21 q22 q23 q24 q25 q26 t2
  go_wp2_with fail
  refine (cP _ t3).mono ?_
  rintro e w4 ⟨v4, rfl, hn4, b4⟩
  obtain ⟨xa, xc, xk, xd, rfl⟩ := node_form hn4
  have B4 := B3.trans (b4.mono B3.size)
  have H4 := Lib.hid (H3.out.more b4)
  have HN4 := Lib.hid (HN3.out.below b4)
  have bA : ∀ o : Obj, Below w4.heap.size w4 (w4.alloc o) := fun o => (Below.refl _ _).alloc (Nat.le_refl _) _
  have hzA : ∀ o : Obj, (w4.alloc o).heap.size = w4.heap.size + 1 := fun o => by simp
  have tA : ∀ o : Obj, TokT (w4.alloc o) := fun o => TokT_below HT.out (B4.trans ((bA o).mono B4.size))
  have nA : ∀ o : Obj, NodeIs (w4.alloc o) m _ := fun o => hn4.below (bA o)
  have HX := Lib.hid (Blk.new w4 #[.int .i64 m.kind, .string m.sp, .string m.nm, .slice xa m.al.length xc, .slice xk m.kids.length xd, .string m.tx, .int .i64 m.at'] 25)
  have HB4 := Lib.hid B4
  clear b4 cP HN3 B3 B4 H3 t3 hn4
  go_wp2_with fail
  refine (cM _ _ (tA _).1 (nA _)).mono ?_
  rintro e w5 ⟨rfl, b5⟩
  have b6 := (bA _).trans (b5.mono (by rw [hzA]; omega))
  have B5 := HB4.out.trans (b6.mono HB4.out.size)
  have H5 := Lib.hid (H4.out.more b6)
  have HN5 := Lib.hid (HN4.out.below b6)
  have HX5 := Lib.hid (HX.out.more b5)
  have HM5 := Lib.hid ((nA _).below b5)
  have t5 := TokT_below HT.out B5
  clear b5 b6 cM nA tA bA hzA HX HB4 H4 HN4
  go_wp2_with fail
  refine (cA _ t5).mono ?_
  rintro e w6 ⟨rfl, b6⟩
  have B6 := B5.trans (b6.mono B5.size)
  have H6 := Lib.hid (H5.out.more b6)
  have q60 : w6.cell? ⟨w.heap.size, 0, none⟩ = some (.int .i64 n.kind) := H6.out.cell 0
  have q61 : w6.cell? ⟨w.heap.size, 1, none⟩ = some (.string n.sp) := H6.out.cell 1
  have q62 : w6.cell? ⟨w.heap.size, 2, none⟩ = some (.string n.nm) := H6.out.cell 2
  have q63 : w6.cell? ⟨w.heap.size, 3, none⟩ = some (.slice pa n.al.length ca) := H6.out.cell 3
  have q64 : w6.cell? ⟨w.heap.size, 4, none⟩ = some (.slice pk n.kids.length ck) := H6.out.cell 4
  have q65 : w6.cell? ⟨w.heap.size, 5, none⟩ = some (.string n.tx) := H6.out.cell 5
  have q66 : w6.cell? ⟨w.heap.size, 6, none⟩ = some (.int .i64 n.at') := H6.out.cell 6
  have X6 := HX5.out.more b6
  have y0 : w6.cell? ⟨w4.heap.size, 0, none⟩ = some (.int .i64 m.kind) := X6.cell 0
  have y1 : w6.cell? ⟨w4.heap.size, 1, none⟩ = some (.string m.sp) := X6.cell 1
  have y2 : w6.cell? ⟨w4.heap.size, 2, none⟩ = some (.string m.nm) := X6.cell 2
  have y3 : w6.cell? ⟨w4.heap.size, 3, none⟩ = some (.slice xa m.al.length xc) := X6.cell 3
  have y4 : w6.cell? ⟨w4.heap.size, 4, none⟩ = some (.slice xk m.kids.length xd) := X6.cell 4
  have y5 : w6.cell? ⟨w4.heap.size, 5, none⟩ = some (.string m.tx) := X6.cell 5
  have y6 : w6.cell? ⟨w4.heap.size, 6, none⟩ = some (.int .i64 m.at') := X6.cell 6
  have N6 := HN5.out.below b6
  have M6 := HM5.out.below b6
  clear b6 X6 HX5 HM5 HN5 H5 cA t5
  go_wp2_with fail
  refine (cE _ _ N6 M6).mono ?_
  rintro e w7 ⟨rfl, b7⟩
  have B7 := B6.trans (b7.mono B6.size)
  go_wp2
  go_ret
  exact ⟨trN (by simp), B7⟩
end Go.Proofs.YtppmoeidgefkpaaGreatDoor
end
