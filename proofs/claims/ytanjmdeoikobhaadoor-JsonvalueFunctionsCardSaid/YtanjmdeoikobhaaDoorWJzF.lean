/- Packed from the texts JzF. -/
import Derived.Test.YtanjmdeoikobhaaDoorWJzC
section
namespace Go.Proofs.YtanjmdeoikobhaaDoor
open Go.RowKit
set_option maxRecDepth 100000 in
set_option maxHeartbeats 64000000 in
theorem walk_JvFunctions (n m : ValD) (k : ByteArray) (p1 : Option Addr) (c1 : Nat) (q1 : Option Addr) (d1 : Nat) (p2 : Option Addr) (c2 : Nat) (q2 : Option Addr) (d2 : Nat) (w : World) (hT : TabV w) (hn : ValIs w n (.agg #[.int .i64 n.kind, .bool n.b, .int .i64 n.n, .string n.s, .slice p1 n.items.length c1, .slice q1 n.mems.length d1, .int .i64 n.at'])) (hm : ValIs w m (.agg #[.int .i64 m.kind, .bool m.b, .int .i64 m.n, .string m.s, .slice p2 m.items.length c2, .slice q2 m.mems.length d2, .int .i64 m.at'])) (hWn : n.WF) (hWm : m.WF) :
    Calls Tryd.prog 3 #[(.agg #[.int .i64 n.kind, .bool n.b, .int .i64 n.n, .string n.s, .slice p1 n.items.length c1, .slice q1 n.mems.length d1, .int .i64 n.at']), (.agg #[.int .i64 m.kind, .bool m.b, .int .i64 m.n, .string m.s, .slice p2 m.items.length c2, .slice q2 m.mems.length d2, .int .i64 m.at']), .string k] w fun e w' => e = .returned (.bool true) ∧ Below w.heap.size w w' := by
  have cA : ∀ wx, TabV wx → _ := fun wx ht => jv_alive wx ht
  have cLn := fun wx h => law_TooLargeJ n (.agg #[.int .i64 n.kind, .bool n.b, .int .i64 n.n, .string n.s, .slice p1 n.items.length c1, .slice q1 n.mems.length d1, .int .i64 n.at']) wx hWn h
  have cLm := fun wx h => law_TooLargeJ m (.agg #[.int .i64 m.kind, .bool m.b, .int .i64 m.n, .string m.s, .slice p2 m.items.length c2, .slice q2 m.mems.length d2, .int .i64 m.at']) wx hWm h
  obtain ⟨W2, hW2⟩ : ∃ W2, W2 = (w.alloc (.cells #[.int .i64 n.kind, .bool n.b, .int .i64 n.n, .string n.s, .slice p1 n.items.length c1, .slice q1 n.mems.length d1, .int .i64 n.at'] 25)).alloc (.cells #[.int .i64 m.kind, .bool m.b, .int .i64 m.n, .string m.s, .slice p2 m.items.length c2, .slice q2 m.mems.length d2, .int .i64 m.at'] 25) := ⟨_, rfl⟩
  have b1 : Below w.heap.size w (w.alloc (.cells #[.int .i64 n.kind, .bool n.b, .int .i64 n.n, .string n.s, .slice p1 n.items.length c1, .slice q1 n.mems.length d1, .int .i64 n.at'] 25)) := (Below.refl _ _).alloc (Nat.le_refl _) _
  have hz1 : (w.alloc (.cells #[.int .i64 n.kind, .bool n.b, .int .i64 n.n, .string n.s, .slice p1 n.items.length c1, .slice q1 n.mems.length d1, .int .i64 n.at'] 25)).heap.size = w.heap.size + 1 := by simp
  have b12 : Below (w.alloc (.cells #[.int .i64 n.kind, .bool n.b, .int .i64 n.n, .string n.s, .slice p1 n.items.length c1, .slice q1 n.mems.length d1, .int .i64 n.at'] 25)).heap.size (w.alloc (.cells #[.int .i64 n.kind, .bool n.b, .int .i64 n.n, .string n.s, .slice p1 n.items.length c1, .slice q1 n.mems.length d1, .int .i64 n.at'] 25)) W2 := by rw [hW2]; exact (Below.refl _ _).alloc (Nat.le_refl _) _
  have b2 : Below w.heap.size w W2 := b1.trans (b12.mono b1.size)
  have X1 : JBox W2 w.heap.size n p1 c1 q1 d1 := (JBox.of (Bj.new w #[.int .i64 n.kind, .bool n.b, .int .i64 n.n, .string n.s, .slice p1 n.items.length c1, .slice q1 n.mems.length d1, .int .i64 n.at'] 25)).below b12
  have X2 : JBox W2 (w.heap.size + 1) m p2 c2 q2 d2 := by
    have := JBox.of (Bj.new (w.alloc (.cells #[.int .i64 n.kind, .bool n.b, .int .i64 n.n, .string n.s, .slice p1 n.items.length c1, .slice q1 n.mems.length d1, .int .i64 n.at'] 25)) #[.int .i64 m.kind, .bool m.b, .int .i64 m.n, .string m.s, .slice p2 m.items.length c2, .slice q2 m.mems.length d2, .int .i64 m.at'] 25)
    rw [hz1] at this
    rw [hW2]
    exact this
  have N2 := ValIs.below b2 _ _ hn
  have M2 := ValIs.below b2 _ _ hm
  have t2 := TabV_below hT b2
  have hz2 : W2.heap.size = w.heap.size + 2 := by rw [hW2]; simp
  have HB2 := Lib.hid b2
  obtain ⟨f0, f1, f2, f3, f4, f5, f6⟩ := id X1
  obtain ⟨g0, g1, g2, g3, g4, g5, g6⟩ := id X2
  clear b1 b12 b2 hz1 hn hm hT
  have HX1 := Lib.hid X1
  have HX2 := Lib.hid X2
  clear X1 X2
  have cL1 := cLn _ N2
  clear cLn
  by_cases h1 : 5000 < n.wgt 0
  · rw [decide_eq_true h1, show oneIfJ true = 1 from rfl] at cL1
    have HC := Lib.hid cL1
    clear h1 cLm M2 N2 HX1 HX2 cL1
    go_enter Tryd.func3, Tryd.ntmps3
    go_upto_region 1 with fail
    simp only [← hW2]
    clear hW2
    have cL1 := HC.out
    go_wp2_with fail
    refine cL1.mono ?_
    rintro e w3 ⟨rfl, b3⟩
    have t3 := TabV_below t2 b3
    go_wp2_with fail
    refine (cA _ t3).mono ?_
    rintro e w4 ⟨rfl, b4⟩
    go_wp2
    go_ret
    exact ⟨rfl, (HB2.out.trans (b3.mono HB2.out.size)).trans (b4.mono (Nat.le_trans HB2.out.size b3.size))⟩
  · rw [decide_eq_false h1, show oneIfJ false = 0 from rfl] at cL1
    by_cases h2 : 5000 < m.wgt 0
    · have cL2 := fun wx h => cLm wx h
      rw [decide_eq_true h2, show oneIfJ true = 1 from rfl] at cL2
      have HM2 := Lib.hid M2
      have HC1 := Lib.hid cL1
      clear h1 h2 cLm M2 N2 HX1 cL1
      go_enter Tryd.func3, Tryd.ntmps3
      go_upto_region 1 with fail
      simp only [← hW2]
      clear hW2
      have cL1 := HC1.out
      go_wp2_with fail
      refine cL1.mono ?_
      rintro e w3 ⟨rfl, b3⟩
      have t3 := TabV_below t2 b3
      obtain ⟨k0, k1, k2, k3, k4, k5, k6⟩ := HX2.out.below b3
      have cL3 := cL2 _ (ValIs.below b3 _ _ HM2.out)
      clear cL1 cL2 HC1
      go_wp2_with fail
      refine cL3.mono ?_
      rintro e w4 ⟨rfl, b4⟩
      have t4 := TabV_below t3 b4
      go_wp2_with fail
      refine (cA _ t4).mono ?_
      rintro e w5 ⟨rfl, b5⟩
      go_wp2
      go_ret
      exact ⟨rfl, ((HB2.out.trans (b3.mono HB2.out.size)).trans (b4.mono (Nat.le_trans HB2.out.size b3.size))).trans (b5.mono (Nat.le_trans HB2.out.size (Nat.le_trans b3.size b4.size)))⟩
    · have cL2 := fun wx h => cLm wx h
      rw [decide_eq_false h2, show oneIfJ false = 0 from rfl] at cL2
      have sn := not_largeJ h1
      have sm := not_largeJ h2
      have gc := got_cnt n k
      have nl := ((vwf_eq n).1 hWn).2.1
      have cG1 := fun wx h => jp_Got n (.agg #[.int .i64 n.kind, .bool n.b, .int .i64 n.n, .string n.s, .slice p1 n.items.length c1, .slice q1 n.mems.length d1, .int .i64 n.at']) k wx nl h
      have cG2 := fun wx h => jref_Got n (.agg #[.int .i64 n.kind, .bool n.b, .int .i64 n.n, .string n.s, .slice p1 n.items.length c1, .slice q1 n.mems.length d1, .int .i64 n.at']) k wx nl h
      have cS := fun wx h => jp_Stripped n (.agg #[.int .i64 n.kind, .bool n.b, .int .i64 n.n, .string n.s, .slice p1 n.items.length c1, .slice q1 n.mems.length d1, .int .i64 n.at']) wx (by omega) h
      have cD1 := fun wx h => jp_Depth n.cnt n (.agg #[.int .i64 n.kind, .bool n.b, .int .i64 n.n, .string n.s, .slice p1 n.items.length c1, .slice q1 n.mems.length d1, .int .i64 n.at']) wx (Nat.le_refl _) (by omega) h
      have cD2 := fun wx h => jref_Depth n.cnt n (.agg #[.int .i64 n.kind, .bool n.b, .int .i64 n.n, .string n.s, .slice p1 n.items.length c1, .slice q1 n.mems.length d1, .int .i64 n.at']) wx (Nat.le_refl _) (by omega) h
      have cE1 := fun wx h h' => jp_Equal n.cnt n m (.agg #[.int .i64 n.kind, .bool n.b, .int .i64 n.n, .string n.s, .slice p1 n.items.length c1, .slice q1 n.mems.length d1, .int .i64 n.at']) (.agg #[.int .i64 m.kind, .bool m.b, .int .i64 m.n, .string m.s, .slice p2 m.items.length c2, .slice q2 m.mems.length d2, .int .i64 m.at']) wx (Nat.le_refl _) (by omega) h h'
      have cE2 := fun wx h h' => jref_Equal false n.cnt n m (.agg #[.int .i64 n.kind, .bool n.b, .int .i64 n.n, .string n.s, .slice p1 n.items.length c1, .slice q1 n.mems.length d1, .int .i64 n.at']) (.agg #[.int .i64 m.kind, .bool m.b, .int .i64 m.n, .string m.s, .slice p2 m.items.length c2, .slice q2 m.mems.length d2, .int .i64 m.at']) wx (Nat.le_refl _) (by omega) h h'
      have cE3 := fun wx vx h h' => jref_Equal false n.cnt n (stripV n) (.agg #[.int .i64 n.kind, .bool n.b, .int .i64 n.n, .string n.s, .slice p1 n.items.length c1, .slice q1 n.mems.length d1, .int .i64 n.at']) vx wx (Nat.le_refl _) (by omega) h h'
      have cEX := fun wx vx ux h h' => jref_Equal true (gotD n k).cnt (gotD n k) (gotD n k) vx ux wx (Nat.le_refl _) (by omega) h h'
      have cZ := fun wx vx h => law_zeroJ (stripV n).cnt (stripV n) vx wx (Nat.le_refl _) (by rw [vcnt_strip]; omega) h
      rw [veq_strip] at cE3
      rw [veq_self] at cEX
      rw [vzero_strip, show oneIfJ true = 1 from rfl] at cZ
      have HN2 := Lib.hid N2
      have HM2 := Lib.hid M2
      have HC1 := Lib.hid cL1
      generalize stripV n = x at cS cE3 cZ
      generalize gotD n k = g at cG1 cG2 cEX
      generalize (getV n k).isSome = gb at cG1 cG2
      clear h1 h2 cLm M2 N2 cL1 sn sm gc nl hWn hWm
      go_enter Tryd.func3, Tryd.ntmps3
      go_upto_region 1 with fail
      simp only [← hW2]
      clear hW2
      have cL1 := HC1.out
      go_wp2_with fail
      refine cL1.mono ?_
      rintro e w3 ⟨rfl, b3⟩
      obtain ⟨k0, k1, k2, k3, k4, k5, k6⟩ := HX2.out.below b3
      have cL3 := cL2 _ (ValIs.below b3 _ _ HM2.out)
      clear cL1 cL2 HC1 f0 f1 f2 f3 f4 f5 f6 g0 g1 g2 g3 g4 g5 g6
      go_wp2_with fail
      refine cL3.mono ?_
      rintro e w4 ⟨rfl, b4⟩
      have b34 := b3.trans (b4.mono b3.size)
      obtain ⟨f0, f1, f2, f3, f4, f5, f6⟩ := HX1.out.below b34
      have cG := cG1 _ (ValIs.below b34 _ _ HN2.out)
      clear cG1 cL3 k0 k1 k2 k3 k4 k5 k6
      go_wp2_with fail
      refine cG.mono ?_
      rintro e w5 ⟨⟨x5, rfl, hx5⟩, b5⟩
      obtain ⟨p3, c3, q3, d3, rfl⟩ := jval_form hx5
      have b35 := b34.trans (b5.mono b34.size)
      clear cG f0 f1 f2 f3 f4 f5 f6
      obtain ⟨W5, hW5⟩ : ∃ W5, W5 = w5.alloc (.cells #[.int .i64 g.kind, .bool g.b, .int .i64 g.n, .string g.s, .slice p3 g.items.length c3, .slice q3 g.mems.length d3, .int .i64 g.at'] 25) := ⟨_, rfl⟩
      have nW5 : Below w5.heap.size w5 W5 := by rw [hW5]; exact (Below.refl _ _).alloc (Nat.le_refl _) _
      have XW5 : JBox W5 w5.heap.size g p3 c3 q3 d3 := by rw [hW5]; exact JBox.of (Bj.new w5 #[.int .i64 g.kind, .bool g.b, .int .i64 g.n, .string g.s, .slice p3 g.items.length c3, .slice q3 g.mems.length d3, .int .i64 g.at'] 25)
      have a5 := b35.trans (nW5.mono b35.size)
      have HG5 := Lib.hid (hx5.below nW5)
      have HY5 := Lib.hid XW5
      obtain ⟨f0, f1, f2, f3, f4, f5, f6⟩ := HX1.out.below a5
      have cG := cG2 _ (ValIs.below a5 _ _ HN2.out)
      have HA5 := Lib.hid a5
      clear cG2 hx5 b34 b35 b3 b4 b5 XW5 nW5 a5
      go_upto_region 4 with fail
      simp only [← hW5]
      generalize w5.heap.size = y5 at HY5 ⊢
      clear hW5
      go_wp2_with fail
      refine cG.mono ?_
      rintro e w6 ⟨⟨x6, rfl, hx6⟩, b6⟩
      obtain ⟨p4, c4, q4, d4, rfl⟩ := jval_form hx6
      clear cG f0 f1 f2 f3 f4 f5 f6
      obtain ⟨W6, hW6⟩ : ∃ W6, W6 = w6.alloc (.cells #[.int .i64 g.kind, .bool g.b, .int .i64 g.n, .string g.s, .slice p4 g.items.length c4, .slice q4 g.mems.length d4, .int .i64 g.at'] 25) := ⟨_, rfl⟩
      have nW6 : Below w6.heap.size w6 W6 := by rw [hW6]; exact (Below.refl _ _).alloc (Nat.le_refl _) _
      have XW6 : JBox W6 w6.heap.size g p4 c4 q4 d4 := by rw [hW6]; exact JBox.of (Bj.new w6 #[.int .i64 g.kind, .bool g.b, .int .i64 g.n, .string g.s, .slice p4 g.items.length c4, .slice q4 g.mems.length d4, .int .i64 g.at'] 25)
      have b56 := b6.trans (nW6.mono b6.size)
      have a6 := HA5.out.trans (b56.mono HA5.out.size)
      have HG6 := Lib.hid (hx6.below nW6)
      have HY6 := Lib.hid XW6
      have HGA := Lib.hid (HG5.out.below b56)
      have HYA := Lib.hid (HY5.out.below b56)
      obtain ⟨f0, f1, f2, f3, f4, f5, f6⟩ := HX1.out.below a6
      have cG := cS _ (ValIs.below a6 _ _ HN2.out)
      have HA6 := Lib.hid a6
      clear cS hx6 b6 b56 XW6 nW6 a6 HG5 HY5 HA5
      go_upto_region 5 with fail
      simp only [← hW6]
      generalize w6.heap.size = y6 at HY6 ⊢
      clear hW6
      go_wp2_with fail
      refine cG.mono ?_
      rintro e w7 ⟨⟨x7, rfl, hx7⟩, b7⟩
      obtain ⟨p5, c5, q5, d5, rfl⟩ := jval_form hx7
      clear cG f0 f1 f2 f3 f4 f5 f6
      obtain ⟨W7, hW7⟩ : ∃ W7, W7 = w7.alloc (.cells #[.int .i64 x.kind, .bool x.b, .int .i64 x.n, .string x.s, .slice p5 x.items.length c5, .slice q5 x.mems.length d5, .int .i64 x.at'] 25) := ⟨_, rfl⟩
      have nW7 : Below w7.heap.size w7 W7 := by rw [hW7]; exact (Below.refl _ _).alloc (Nat.le_refl _) _
      have XW7 : JBox W7 w7.heap.size x p5 c5 q5 d5 := by rw [hW7]; exact JBox.of (Bj.new w7 #[.int .i64 x.kind, .bool x.b, .int .i64 x.n, .string x.s, .slice p5 x.items.length c5, .slice q5 x.mems.length d5, .int .i64 x.at'] 25)
      have b67 := b7.trans (nW7.mono b7.size)
      have a7 := HA6.out.trans (b67.mono HA6.out.size)
      have R7 := hx7.below nW7
      have E7 := HG6.out.below b67
      have D7 := HGA.out.below b67
      have Y3 := HYA.out.below b67
      have Y4 := HY6.out.below b67
      have Y1 := HX1.out.below a7
      have Y2 := HX2.out.below a7
      have N7 := ValIs.below a7 _ _ HN2.out
      have M7 := ValIs.below a7 _ _ HM2.out
      have t7 := TabV_below t2 a7
      have B7 := HB2.out.trans (a7.mono HB2.out.size)
      clear hx7 b7 b67 nW7 a7 HG6 HY6 HGA HYA HA6 HX1 HX2 HN2 HM2 HB2 t2 hz2
      go_upto_region 6 with fail
      simp only [← hW7]
      clear hW7
      generalize w7.heap.size = y7 at XW7 ⊢
      generalize hss : w.heap.size + 1 = hs1 at Y2 ⊢
      have HB7 := Lib.hid B7
      clear B7 hss
      generalize w.heap.size = hs at Y1 ⊢
      obtain ⟨f0, f1, f2, f3, f4, f5, f6⟩ := Y1
      obtain ⟨g0, g1, g2, g3, g4, g5, g6⟩ := Y2
      obtain ⟨h0, h1, h2, h3, h4, h5, h6⟩ := Y3
      obtain ⟨i0, i1, i2, i3, i4, i5, i6⟩ := Y4
      obtain ⟨j0, j1, j2, j3, j4, j5, j6⟩ := XW7
      have S0 : (W7.drew.cell? ⟨hs, 0, none⟩ = some (.int .i64 n.kind) ∧ W7.drew.cell? ⟨hs, 1, none⟩ = some (.bool n.b) ∧ W7.drew.cell? ⟨hs, 2, none⟩ = some (.int .i64 n.n) ∧ W7.drew.cell? ⟨hs, 3, none⟩ = some (.string n.s) ∧ W7.drew.cell? ⟨hs, 4, none⟩ = some (.slice p1 n.items.length c1) ∧ W7.drew.cell? ⟨hs, 5, none⟩ = some (.slice q1 n.mems.length d1) ∧ W7.drew.cell? ⟨hs, 6, none⟩ = some (.int .i64 n.at') ∧ W7.drew.cell? ⟨hs1, 0, none⟩ = some (.int .i64 m.kind) ∧ W7.drew.cell? ⟨hs1, 1, none⟩ = some (.bool m.b) ∧ W7.drew.cell? ⟨hs1, 2, none⟩ = some (.int .i64 m.n) ∧ W7.drew.cell? ⟨hs1, 3, none⟩ = some (.string m.s) ∧ W7.drew.cell? ⟨hs1, 4, none⟩ = some (.slice p2 m.items.length c2) ∧ W7.drew.cell? ⟨hs1, 5, none⟩ = some (.slice q2 m.mems.length d2) ∧ W7.drew.cell? ⟨hs1, 6, none⟩ = some (.int .i64 m.at') ∧ W7.drew.cell? ⟨y5, 0, none⟩ = some (.int .i64 g.kind) ∧ W7.drew.cell? ⟨y5, 1, none⟩ = some (.bool g.b) ∧ W7.drew.cell? ⟨y5, 2, none⟩ = some (.int .i64 g.n) ∧ W7.drew.cell? ⟨y5, 3, none⟩ = some (.string g.s) ∧ W7.drew.cell? ⟨y5, 4, none⟩ = some (.slice p3 g.items.length c3) ∧ W7.drew.cell? ⟨y5, 5, none⟩ = some (.slice q3 g.mems.length d3) ∧ W7.drew.cell? ⟨y5, 6, none⟩ = some (.int .i64 g.at') ∧ W7.drew.cell? ⟨y6, 0, none⟩ = some (.int .i64 g.kind) ∧ W7.drew.cell? ⟨y6, 1, none⟩ = some (.bool g.b) ∧ W7.drew.cell? ⟨y6, 2, none⟩ = some (.int .i64 g.n) ∧ W7.drew.cell? ⟨y6, 3, none⟩ = some (.string g.s) ∧ W7.drew.cell? ⟨y6, 4, none⟩ = some (.slice p4 g.items.length c4) ∧ W7.drew.cell? ⟨y6, 5, none⟩ = some (.slice q4 g.mems.length d4) ∧ W7.drew.cell? ⟨y6, 6, none⟩ = some (.int .i64 g.at') ∧ W7.drew.cell? ⟨y7, 0, none⟩ = some (.int .i64 x.kind) ∧ W7.drew.cell? ⟨y7, 1, none⟩ = some (.bool x.b) ∧ W7.drew.cell? ⟨y7, 2, none⟩ = some (.int .i64 x.n) ∧ W7.drew.cell? ⟨y7, 3, none⟩ = some (.string x.s) ∧ W7.drew.cell? ⟨y7, 4, none⟩ = some (.slice p5 x.items.length c5) ∧ W7.drew.cell? ⟨y7, 5, none⟩ = some (.slice q5 x.mems.length d5) ∧ W7.drew.cell? ⟨y7, 6, none⟩ = some (.int .i64 x.at')) := ⟨f0, f1, f2, f3, f4, f5, f6, g0, g1, g2, g3, g4, g5, g6, h0, h1, h2, h3, h4, h5, h6, i0, i1, i2, i3, i4, i5, i6, j0, j1, j2, j3, j4, j5, j6⟩
      have hSB : ∀ x1 x2 : World, Below x1.heap.size x1 x2 → (x1.cell? ⟨hs, 0, none⟩ = some (.int .i64 n.kind) ∧ x1.cell? ⟨hs, 1, none⟩ = some (.bool n.b) ∧ x1.cell? ⟨hs, 2, none⟩ = some (.int .i64 n.n) ∧ x1.cell? ⟨hs, 3, none⟩ = some (.string n.s) ∧ x1.cell? ⟨hs, 4, none⟩ = some (.slice p1 n.items.length c1) ∧ x1.cell? ⟨hs, 5, none⟩ = some (.slice q1 n.mems.length d1) ∧ x1.cell? ⟨hs, 6, none⟩ = some (.int .i64 n.at') ∧ x1.cell? ⟨hs1, 0, none⟩ = some (.int .i64 m.kind) ∧ x1.cell? ⟨hs1, 1, none⟩ = some (.bool m.b) ∧ x1.cell? ⟨hs1, 2, none⟩ = some (.int .i64 m.n) ∧ x1.cell? ⟨hs1, 3, none⟩ = some (.string m.s) ∧ x1.cell? ⟨hs1, 4, none⟩ = some (.slice p2 m.items.length c2) ∧ x1.cell? ⟨hs1, 5, none⟩ = some (.slice q2 m.mems.length d2) ∧ x1.cell? ⟨hs1, 6, none⟩ = some (.int .i64 m.at') ∧ x1.cell? ⟨y5, 0, none⟩ = some (.int .i64 g.kind) ∧ x1.cell? ⟨y5, 1, none⟩ = some (.bool g.b) ∧ x1.cell? ⟨y5, 2, none⟩ = some (.int .i64 g.n) ∧ x1.cell? ⟨y5, 3, none⟩ = some (.string g.s) ∧ x1.cell? ⟨y5, 4, none⟩ = some (.slice p3 g.items.length c3) ∧ x1.cell? ⟨y5, 5, none⟩ = some (.slice q3 g.mems.length d3) ∧ x1.cell? ⟨y5, 6, none⟩ = some (.int .i64 g.at') ∧ x1.cell? ⟨y6, 0, none⟩ = some (.int .i64 g.kind) ∧ x1.cell? ⟨y6, 1, none⟩ = some (.bool g.b) ∧ x1.cell? ⟨y6, 2, none⟩ = some (.int .i64 g.n) ∧ x1.cell? ⟨y6, 3, none⟩ = some (.string g.s) ∧ x1.cell? ⟨y6, 4, none⟩ = some (.slice p4 g.items.length c4) ∧ x1.cell? ⟨y6, 5, none⟩ = some (.slice q4 g.mems.length d4) ∧ x1.cell? ⟨y6, 6, none⟩ = some (.int .i64 g.at') ∧ x1.cell? ⟨y7, 0, none⟩ = some (.int .i64 x.kind) ∧ x1.cell? ⟨y7, 1, none⟩ = some (.bool x.b) ∧ x1.cell? ⟨y7, 2, none⟩ = some (.int .i64 x.n) ∧ x1.cell? ⟨y7, 3, none⟩ = some (.string x.s) ∧ x1.cell? ⟨y7, 4, none⟩ = some (.slice p5 x.items.length c5) ∧ x1.cell? ⟨y7, 5, none⟩ = some (.slice q5 x.mems.length d5) ∧ x1.cell? ⟨y7, 6, none⟩ = some (.int .i64 x.at')) → (x2.cell? ⟨hs, 0, none⟩ = some (.int .i64 n.kind) ∧ x2.cell? ⟨hs, 1, none⟩ = some (.bool n.b) ∧ x2.cell? ⟨hs, 2, none⟩ = some (.int .i64 n.n) ∧ x2.cell? ⟨hs, 3, none⟩ = some (.string n.s) ∧ x2.cell? ⟨hs, 4, none⟩ = some (.slice p1 n.items.length c1) ∧ x2.cell? ⟨hs, 5, none⟩ = some (.slice q1 n.mems.length d1) ∧ x2.cell? ⟨hs, 6, none⟩ = some (.int .i64 n.at') ∧ x2.cell? ⟨hs1, 0, none⟩ = some (.int .i64 m.kind) ∧ x2.cell? ⟨hs1, 1, none⟩ = some (.bool m.b) ∧ x2.cell? ⟨hs1, 2, none⟩ = some (.int .i64 m.n) ∧ x2.cell? ⟨hs1, 3, none⟩ = some (.string m.s) ∧ x2.cell? ⟨hs1, 4, none⟩ = some (.slice p2 m.items.length c2) ∧ x2.cell? ⟨hs1, 5, none⟩ = some (.slice q2 m.mems.length d2) ∧ x2.cell? ⟨hs1, 6, none⟩ = some (.int .i64 m.at') ∧ x2.cell? ⟨y5, 0, none⟩ = some (.int .i64 g.kind) ∧ x2.cell? ⟨y5, 1, none⟩ = some (.bool g.b) ∧ x2.cell? ⟨y5, 2, none⟩ = some (.int .i64 g.n) ∧ x2.cell? ⟨y5, 3, none⟩ = some (.string g.s) ∧ x2.cell? ⟨y5, 4, none⟩ = some (.slice p3 g.items.length c3) ∧ x2.cell? ⟨y5, 5, none⟩ = some (.slice q3 g.mems.length d3) ∧ x2.cell? ⟨y5, 6, none⟩ = some (.int .i64 g.at') ∧ x2.cell? ⟨y6, 0, none⟩ = some (.int .i64 g.kind) ∧ x2.cell? ⟨y6, 1, none⟩ = some (.bool g.b) ∧ x2.cell? ⟨y6, 2, none⟩ = some (.int .i64 g.n) ∧ x2.cell? ⟨y6, 3, none⟩ = some (.string g.s) ∧ x2.cell? ⟨y6, 4, none⟩ = some (.slice p4 g.items.length c4) ∧ x2.cell? ⟨y6, 5, none⟩ = some (.slice q4 g.mems.length d4) ∧ x2.cell? ⟨y6, 6, none⟩ = some (.int .i64 g.at') ∧ x2.cell? ⟨y7, 0, none⟩ = some (.int .i64 x.kind) ∧ x2.cell? ⟨y7, 1, none⟩ = some (.bool x.b) ∧ x2.cell? ⟨y7, 2, none⟩ = some (.int .i64 x.n) ∧ x2.cell? ⟨y7, 3, none⟩ = some (.string x.s) ∧ x2.cell? ⟨y7, 4, none⟩ = some (.slice p5 x.items.length c5) ∧ x2.cell? ⟨y7, 5, none⟩ = some (.slice q5 x.mems.length d5) ∧ x2.cell? ⟨y7, 6, none⟩ = some (.int .i64 x.at')) := by
        intro x1 x2 hb h
        obtain ⟨z0, z1, z2, z3, z4, z5, z6, z7, z8, z9, z10, z11, z12, z13, z14, z15, z16, z17, z18, z19, z20, z21, z22, z23, z24, z25, z26, z27, z28, z29, z30, z31, z32, z33, z34⟩ := h
        exact ⟨(hb.cell (vblock_lt z0)).trans z0, (hb.cell (vblock_lt z1)).trans z1, (hb.cell (vblock_lt z2)).trans z2, (hb.cell (vblock_lt z3)).trans z3, (hb.cell (vblock_lt z4)).trans z4, (hb.cell (vblock_lt z5)).trans z5, (hb.cell (vblock_lt z6)).trans z6, (hb.cell (vblock_lt z7)).trans z7, (hb.cell (vblock_lt z8)).trans z8, (hb.cell (vblock_lt z9)).trans z9, (hb.cell (vblock_lt z10)).trans z10, (hb.cell (vblock_lt z11)).trans z11, (hb.cell (vblock_lt z12)).trans z12, (hb.cell (vblock_lt z13)).trans z13, (hb.cell (vblock_lt z14)).trans z14, (hb.cell (vblock_lt z15)).trans z15, (hb.cell (vblock_lt z16)).trans z16, (hb.cell (vblock_lt z17)).trans z17, (hb.cell (vblock_lt z18)).trans z18, (hb.cell (vblock_lt z19)).trans z19, (hb.cell (vblock_lt z20)).trans z20, (hb.cell (vblock_lt z21)).trans z21, (hb.cell (vblock_lt z22)).trans z22, (hb.cell (vblock_lt z23)).trans z23, (hb.cell (vblock_lt z24)).trans z24, (hb.cell (vblock_lt z25)).trans z25, (hb.cell (vblock_lt z26)).trans z26, (hb.cell (vblock_lt z27)).trans z27, (hb.cell (vblock_lt z28)).trans z28, (hb.cell (vblock_lt z29)).trans z29, (hb.cell (vblock_lt z30)).trans z30, (hb.cell (vblock_lt z31)).trans z31, (hb.cell (vblock_lt z32)).trans z32, (hb.cell (vblock_lt z33)).trans z33, (hb.cell (vblock_lt z34)).trans z34⟩
      have N0 : (ValIs W7.drew n (.agg #[.int .i64 n.kind, .bool n.b, .int .i64 n.n, .string n.s, .slice p1 n.items.length c1, .slice q1 n.mems.length d1, .int .i64 n.at']) ∧ ValIs W7.drew m (.agg #[.int .i64 m.kind, .bool m.b, .int .i64 m.n, .string m.s, .slice p2 m.items.length c2, .slice q2 m.mems.length d2, .int .i64 m.at']) ∧ ValIs W7.drew g (.agg #[.int .i64 g.kind, .bool g.b, .int .i64 g.n, .string g.s, .slice p3 g.items.length c3, .slice q3 g.mems.length d3, .int .i64 g.at']) ∧ ValIs W7.drew g (.agg #[.int .i64 g.kind, .bool g.b, .int .i64 g.n, .string g.s, .slice p4 g.items.length c4, .slice q4 g.mems.length d4, .int .i64 g.at']) ∧ ValIs W7.drew x (.agg #[.int .i64 x.kind, .bool x.b, .int .i64 x.n, .string x.s, .slice p5 x.items.length c5, .slice q5 x.mems.length d5, .int .i64 x.at']) ∧ Below w.heap.size w W7.drew) := ⟨ValIs.below (Below.drew (Below.refl _ _)) _ _ N7, ValIs.below (Below.drew (Below.refl _ _)) _ _ M7, ValIs.below (Below.drew (Below.refl _ _)) _ _ D7, ValIs.below (Below.drew (Below.refl _ _)) _ _ E7, ValIs.below (Below.drew (Below.refl _ _)) _ _ R7, HB7.out.drew⟩
      have hNB : ∀ x1 x2 : World, Below x1.heap.size x1 x2 → (ValIs x1 n (.agg #[.int .i64 n.kind, .bool n.b, .int .i64 n.n, .string n.s, .slice p1 n.items.length c1, .slice q1 n.mems.length d1, .int .i64 n.at']) ∧ ValIs x1 m (.agg #[.int .i64 m.kind, .bool m.b, .int .i64 m.n, .string m.s, .slice p2 m.items.length c2, .slice q2 m.mems.length d2, .int .i64 m.at']) ∧ ValIs x1 g (.agg #[.int .i64 g.kind, .bool g.b, .int .i64 g.n, .string g.s, .slice p3 g.items.length c3, .slice q3 g.mems.length d3, .int .i64 g.at']) ∧ ValIs x1 g (.agg #[.int .i64 g.kind, .bool g.b, .int .i64 g.n, .string g.s, .slice p4 g.items.length c4, .slice q4 g.mems.length d4, .int .i64 g.at']) ∧ ValIs x1 x (.agg #[.int .i64 x.kind, .bool x.b, .int .i64 x.n, .string x.s, .slice p5 x.items.length c5, .slice q5 x.mems.length d5, .int .i64 x.at']) ∧ Below w.heap.size w x1) → (ValIs x2 n (.agg #[.int .i64 n.kind, .bool n.b, .int .i64 n.n, .string n.s, .slice p1 n.items.length c1, .slice q1 n.mems.length d1, .int .i64 n.at']) ∧ ValIs x2 m (.agg #[.int .i64 m.kind, .bool m.b, .int .i64 m.n, .string m.s, .slice p2 m.items.length c2, .slice q2 m.mems.length d2, .int .i64 m.at']) ∧ ValIs x2 g (.agg #[.int .i64 g.kind, .bool g.b, .int .i64 g.n, .string g.s, .slice p3 g.items.length c3, .slice q3 g.mems.length d3, .int .i64 g.at']) ∧ ValIs x2 g (.agg #[.int .i64 g.kind, .bool g.b, .int .i64 g.n, .string g.s, .slice p4 g.items.length c4, .slice q4 g.mems.length d4, .int .i64 g.at']) ∧ ValIs x2 x (.agg #[.int .i64 x.kind, .bool x.b, .int .i64 x.n, .string x.s, .slice p5 x.items.length c5, .slice q5 x.mems.length d5, .int .i64 x.at']) ∧ Below w.heap.size w x2) := fun x1 x2 hb h => ⟨ValIs.below hb _ _ h.1, ValIs.below hb _ _ h.2.1, ValIs.below hb _ _ h.2.2.1, ValIs.below hb _ _ h.2.2.2.1, ValIs.below hb _ _ h.2.2.2.2.1, h.2.2.2.2.2.trans (hb.mono h.2.2.2.2.2.size)⟩
      have t0 := TabV_below t7 (Below.refl _ _).drew
      clear N7 M7 D7 E7 R7 t7 f0 f1 f2 f3 f4 f5 f6 g0 g1 g2 g3 g4 g5 g6 h0 h1 h2 h3 h4 h5 h6 i0 i1 i2 i3 i4 i5 i6 j0 j1 j2 j3 j4 j5 j6
      generalize n.depth = nd at cD1 cD2
      generalize n.eqB false m = nq at cE1 cE2
      try simp only [List.append_eq, List.cons_append, List.nil_append]
      go_region_held3 (fun w' => (w'.cell? ⟨hs, 0, none⟩ = some (.int .i64 n.kind) ∧ w'.cell? ⟨hs, 1, none⟩ = some (.bool n.b) ∧ w'.cell? ⟨hs, 2, none⟩ = some (.int .i64 n.n) ∧ w'.cell? ⟨hs, 3, none⟩ = some (.string n.s) ∧ w'.cell? ⟨hs, 4, none⟩ = some (.slice p1 n.items.length c1) ∧ w'.cell? ⟨hs, 5, none⟩ = some (.slice q1 n.mems.length d1) ∧ w'.cell? ⟨hs, 6, none⟩ = some (.int .i64 n.at') ∧ w'.cell? ⟨hs1, 0, none⟩ = some (.int .i64 m.kind) ∧ w'.cell? ⟨hs1, 1, none⟩ = some (.bool m.b) ∧ w'.cell? ⟨hs1, 2, none⟩ = some (.int .i64 m.n) ∧ w'.cell? ⟨hs1, 3, none⟩ = some (.string m.s) ∧ w'.cell? ⟨hs1, 4, none⟩ = some (.slice p2 m.items.length c2) ∧ w'.cell? ⟨hs1, 5, none⟩ = some (.slice q2 m.mems.length d2) ∧ w'.cell? ⟨hs1, 6, none⟩ = some (.int .i64 m.at') ∧ w'.cell? ⟨y5, 0, none⟩ = some (.int .i64 g.kind) ∧ w'.cell? ⟨y5, 1, none⟩ = some (.bool g.b) ∧ w'.cell? ⟨y5, 2, none⟩ = some (.int .i64 g.n) ∧ w'.cell? ⟨y5, 3, none⟩ = some (.string g.s) ∧ w'.cell? ⟨y5, 4, none⟩ = some (.slice p3 g.items.length c3) ∧ w'.cell? ⟨y5, 5, none⟩ = some (.slice q3 g.mems.length d3) ∧ w'.cell? ⟨y5, 6, none⟩ = some (.int .i64 g.at') ∧ w'.cell? ⟨y6, 0, none⟩ = some (.int .i64 g.kind) ∧ w'.cell? ⟨y6, 1, none⟩ = some (.bool g.b) ∧ w'.cell? ⟨y6, 2, none⟩ = some (.int .i64 g.n) ∧ w'.cell? ⟨y6, 3, none⟩ = some (.string g.s) ∧ w'.cell? ⟨y6, 4, none⟩ = some (.slice p4 g.items.length c4) ∧ w'.cell? ⟨y6, 5, none⟩ = some (.slice q4 g.mems.length d4) ∧ w'.cell? ⟨y6, 6, none⟩ = some (.int .i64 g.at') ∧ w'.cell? ⟨y7, 0, none⟩ = some (.int .i64 x.kind) ∧ w'.cell? ⟨y7, 1, none⟩ = some (.bool x.b) ∧ w'.cell? ⟨y7, 2, none⟩ = some (.int .i64 x.n) ∧ w'.cell? ⟨y7, 3, none⟩ = some (.string x.s) ∧ w'.cell? ⟨y7, 4, none⟩ = some (.slice p5 x.items.length c5) ∧ w'.cell? ⟨y7, 5, none⟩ = some (.slice q5 x.mems.length d5) ∧ w'.cell? ⟨y7, 6, none⟩ = some (.int .i64 x.at'))) (first | with_reducible exact S8 | with_reducible exact S7 | with_reducible exact S6 | with_reducible exact S5 | with_reducible exact S4 | with_reducible exact S3 | with_reducible exact S2 | with_reducible exact S1 | with_reducible exact S0) (first | (go_at_call 7; refine (cA _ t0).mono ?_; rintro e u1 ⟨rfl, bb1⟩; have S1 := hSB _ _ bb1 S0; have N1 := hNB _ _ bb1 N0) | (go_at_call 12; refine (cD1 _ N2.1).mono ?_; rintro e u3 ⟨rfl, bb3⟩; have S3 := hSB _ _ bb3 S2; have N3 := hNB _ _ bb3 N2) | (go_at_call 13; refine (cD2 _ N3.1).mono ?_; rintro e u4 ⟨rfl, bb4⟩; have S4 := hSB _ _ bb4 S3; have N4 := hNB _ _ bb4 N3) | (go_at_call 14; refine (cE1 _ N4.1 N4.2.1).mono ?_; rintro e u5 ⟨rfl, bb5⟩; have S5 := hSB _ _ bb5 S4; have N5 := hNB _ _ bb5 N4) | (go_at_call 11; refine (cE3 _ _ N6.1 N6.2.2.2.2.1).mono ?_; rintro e u7 ⟨rfl, bb7⟩; have S7 := hSB _ _ bb7 S6; have N7 := hNB _ _ bb7 N6) | (go_at_call 11; refine (cE2 _ N5.1 N5.2.1).mono ?_; rintro e u6 ⟨rfl, bb6⟩; have S6 := hSB _ _ bb6 S5; have N6 := hNB _ _ bb6 N5) | (go_at_call 11; refine (cEX _ _ _ N1.2.2.1 N1.2.2.2.1).mono ?_; rintro e u2 ⟨rfl, bb2⟩; have S2 := hSB _ _ bb2 S1; have N2 := hNB _ _ bb2 N1) | (go_at_call 15; refine (cZ _ _ N7.2.2.2.2.1).mono ?_; rintro e u8 ⟨rfl, bb8⟩; have S8 := hSB _ _ bb8 S7; have N8 := hNB _ _ bb8 N7))
      all_goals
        go_wp2
        go_ret
        exact ⟨by simp, N8.2.2.2.2.2⟩
end Go.Proofs.YtanjmdeoikobhaaDoor
end
