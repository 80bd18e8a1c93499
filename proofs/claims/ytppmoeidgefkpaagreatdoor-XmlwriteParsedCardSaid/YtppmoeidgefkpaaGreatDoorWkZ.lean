/- Packed from the texts WsA. -/
import Derived.Test.YtppmoeidgefkpaaGreatDoorWkY
set_option maxRecDepth 100000
namespace Go.Proofs.YtppmoeidgefkpaaGreatDoor
section
open Go.RowKit
theorem sumA_len : ∀ l : List AttrD, l.length ≤ (l.map fun x => 1 + x.sp.size + x.nm.size + x.va.size).sum
 | [] => Nat.le_refl _
 | x :: r => by
  have := sumA_len r
  rw [List.length_cons, List.map_cons, List.sum_cons]
  omega
mutual
theorem wt_mass : ∀ n : NodeD, n.wt ≤ n.mass
 | .mk _ sp nm al kids tx _ => by
  have h1 := wts_mass kids
  have h2 := sumA_len al
  rw [NodeD.wt, NodeD.mass]
  omega
theorem wts_mass : ∀ l : List NodeD, wts l ≤ masses l
 | [] => Nat.le_refl _
 | k :: r => by
  have h1 := wt_mass k
  have h2 := wts_mass r
  rw [wts, masses]
  omega
end
set_option maxHeartbeats 16000000 in
theorem walk_WrParsed (s : ByteArray) (w : World) (hT : TokT w) : Calls Tryz.prog 4 #[.string s] w fun e w' => e = .returned (.bool true) ∧ Below w.heap.size w w' := by
 have cA : ∀ wx, TokT wx → _ := fun wx h => wr_alive wx h.1
 have HT := Lib.hid hT
 by_cases hs : s.size ≤ 3000
 case neg =>
  have hz : (3000 : Int) < (s.size : Int) := by omega
  go_enter Tryz.func4, Tryz.ntmps4
  go_wp2_with fail
  refine (cA _ HT.out).mono ?_
  rintro e w1 ⟨rfl, b1⟩
  go_wp2
  go_ret
  exact ⟨rfl, b1⟩
 have hz : ¬ (3000 : Int) < (s.size : Int) := by omega
 have cR := fun wx => tref_Parse s wx (by omega)
 unfold ParsIs at cR
 have hgd := parse_good s
 generalize parseP s = P at *
 obtain ⟨n, o, E⟩ := P
 by_cases he : E = 0
 case neg =>
  have q1 : (E != 0) = true := by simpa using he
  clear hgd hT he
  go_enter Tryz.func4, Tryz.ntmps4
  go_wp2_with fail
  refine (cR _).mono ?_
  rintro e w1 ⟨v1, rfl, hn1, b1⟩
  obtain ⟨pa, ca, pk, ck, rfl⟩ := node_form hn1
  have bA : ∀ o : Obj, Below w.heap.size w (w1.alloc o) := fun o => b1.alloc b1.size _
  have tA : ∀ o : Obj, TokT (w1.alloc o) := fun o => TokT_below HT.out (bA o)
  have zA : ∀ o : Obj, w.heap.size ≤ (w1.alloc o).heap.size := fun o => by simp; have := b1.size; omega
  go_wp2_with fail
  refine (cA _ (tA _)).mono ?_
  rintro e w2 ⟨rfl, b2⟩
  go_wp2
  go_ret
  exact ⟨rfl, (bA _).trans (b2.mono (zA _))⟩
 subst he
 obtain ⟨hg, hm⟩ : n.goodB = true ∧ n.mass ≤ 6001 := by
  obtain ⟨a, b⟩ := hgd rfl
  exact ⟨a, Nat.le_trans b (by omega)⟩
 have kW : n.mass ≤ 1000000 := Nat.le_trans hm (by decide)
 have kP : (oB (docP n)).size ≤ 40000 := Nat.le_trans (doc_size n) (Nat.le_trans (Nat.add_le_add_right (Nat.mul_le_mul_left 6 hm) 40) (by decide))
 have kE : n.wt ≤ 100000000 := Nat.le_trans (wt_mass n) (Nat.le_trans hm (by decide))
 obtain ⟨m, hmn, hmp⟩ := parse_doc hg
 have hwr := write_good hg
 have he0 := good_err.1 hg
 have cW := fun v wx ht h => xw_Write n v wx kW ht h
 rw [he0, hwr] at cW
 have cP := fun wx ht => xt_Parse (oB (docP n)) wx kP ht
 unfold ParsIs at cP
 rw [hmp] at cP
 have cE := fun wx v u h1 h2 => tref_Equal false n.wt n m v u wx (Nat.le_refl _) kE h1 h2
 rw [eq_symm hmn] at cE
 clear hT hm hg hgd hwr hmn hmp he0 hs kW kP kE
 generalize oB (docP n) = SD at *
 go_enter Tryz.func4, Tryz.ntmps4
 go_wp2_with fail
 refine (cR _).mono ?_
 rintro e w1 ⟨v1, rfl, hn1, b1⟩
 obtain ⟨pa, ca, pk, ck, rfl⟩ := node_form hn1
 have bA : ∀ o : Obj, Below w1.heap.size w1 (w1.alloc o) := fun o => (Below.refl _ _).alloc (Nat.le_refl _) _
 have hzA : ∀ o : Obj, (w1.alloc o).heap.size = w1.heap.size + 1 := fun o => by simp
 have tA : ∀ o : Obj, TokT (w1.alloc o) := fun o => TokT_below HT.out (b1.trans ((bA o).mono b1.size))
 have nA : ∀ o : Obj, NodeIs (w1.alloc o) n _ := fun o => hn1.below (bA o)
 have HX := Lib.hid (Blk.new w1 #[.int .i64 n.kind, .string n.sp, .string n.nm, .slice pa n.al.length ca, .slice pk n.kids.length ck, .string n.tx, .int .i64 n.at'] 25)
 have HB1 := Lib.hid b1
 clear b1 cR hn1
 go_wp2_with fail
 refine (cW _ _ (tA _).1 (nA _)).mono ?_
 rintro e w2 ⟨rfl, b2⟩
 have b3 := (bA _).trans (b2.mono (by rw [hzA]; omega))
 have B2 := HB1.out.trans (b3.mono HB1.out.size)
 have HX2 := Lib.hid (HX.out.more b2)
 have HN2 := Lib.hid ((nA _).below b2)
 have t2 := TokT_below HT.out B2
 have HS2 := Lib.hid b3.size
 clear b2 b3 cW nA tA bA hzA HX HB1
 go_wp2_with fail
 refine (cP _ t2).mono ?_
 rintro e w3 ⟨v3, rfl, hn3, b3⟩
 obtain ⟨xa, xc, xk, xd, rfl⟩ := node_form hn3
 have B3 := B2.trans (b3.mono B2.size)
 have HX3 := Lib.hid (HX2.out.more b3)
 have HN3 := Lib.hid (HN2.out.below b3)
 have bA : ∀ o : Obj, Below w3.heap.size w3 (w3.alloc o) := fun o => (Below.refl _ _).alloc (Nat.le_refl _) _
 have hzA : ∀ o : Obj, (w3.alloc o).heap.size = w3.heap.size + 1 := fun o => by simp
 have tA : ∀ o : Obj, TokT (w3.alloc o) := fun o => TokT_below HT.out (B3.trans ((bA o).mono B3.size))
 have HY := Lib.hid (Blk.new w3 #[.int .i64 m.kind, .string m.sp, .string m.nm, .slice xa m.al.length xc, .slice xk m.kids.length xd, .string m.tx, .int .i64 m.at'] 25)
 have nA : ∀ o : Obj, NodeIs (w3.alloc o) n _ := fun o => HN3.out.below (bA o)
 have mA : ∀ o : Obj, NodeIs (w3.alloc o) m _ := fun o => hn3.below (bA o)
 have xA : ∀ o : Obj, Blk (w3.alloc o) _ _ _ := fun o => HX3.out.more (bA o)
 have HB3 := Lib.hid B3
 clear b3 cP HN3 HN2 HX2 B2 B3 t2 hn3 HX3
 go_wp2_with fail
 refine (cA _ (tA _)).mono ?_
 rintro e w4 ⟨rfl, b4⟩
 have b5 := (bA _).trans (b4.mono (by rw [hzA]; omega))
 have B4 := HB3.out.trans (b5.mono HB3.out.size)
 have X4 := (xA _).more b4
 have Y4 := HY.out.more b4
 have y0 : w4.cell? ⟨w3.heap.size, 0, none⟩ = some (.int .i64 m.kind) := Y4.cell 0
 have y1 : w4.cell? ⟨w3.heap.size, 1, none⟩ = some (.string m.sp) := Y4.cell 1
 have y2 : w4.cell? ⟨w3.heap.size, 2, none⟩ = some (.string m.nm) := Y4.cell 2
 have y3 : w4.cell? ⟨w3.heap.size, 3, none⟩ = some (.slice xa m.al.length xc) := Y4.cell 3
 have y4 : w4.cell? ⟨w3.heap.size, 4, none⟩ = some (.slice xk m.kids.length xd) := Y4.cell 4
 have y5 : w4.cell? ⟨w3.heap.size, 5, none⟩ = some (.string m.tx) := Y4.cell 5
 have y6 : w4.cell? ⟨w3.heap.size, 6, none⟩ = some (.int .i64 m.at') := Y4.cell 6
 have x0 : w4.cell? ⟨w1.heap.size, 0, none⟩ = some (.int .i64 n.kind) := X4.cell 0
 have x1 : w4.cell? ⟨w1.heap.size, 1, none⟩ = some (.string n.sp) := X4.cell 1
 have x2 : w4.cell? ⟨w1.heap.size, 2, none⟩ = some (.string n.nm) := X4.cell 2
 have x3 : w4.cell? ⟨w1.heap.size, 3, none⟩ = some (.slice pa n.al.length ca) := X4.cell 3
 have x4 : w4.cell? ⟨w1.heap.size, 4, none⟩ = some (.slice pk n.kids.length ck) := X4.cell 4
 have x5 : w4.cell? ⟨w1.heap.size, 5, none⟩ = some (.string n.tx) := X4.cell 5
 have x6 : w4.cell? ⟨w1.heap.size, 6, none⟩ = some (.int .i64 n.at') := X4.cell 6
 have N4 := (nA _).below b4
 have M4 := (mA _).below b4
 clear b4 b5 X4 Y4 HY xA nA mA tA bA hzA HB3 cA
 go_wp2_with fail
 refine (cE _ _ _ N4 M4).mono ?_
 rintro e w5 ⟨rfl, b5⟩
 have B5 := B4.trans (b5.mono B4.size)
 go_wp2
 go_ret
 exact ⟨trN (by simp), B5⟩
end
end Go.Proofs.YtppmoeidgefkpaaGreatDoor
