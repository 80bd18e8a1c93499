/- Packed from the texts MeN. -/
import Derived.Test.YtggfblodjanfkaaDoorVMeK
import Derived.Test.YtggfblodjanfkaaDoorVk6
import Derived.Test.YtggfblodjanfkaaDoorVk9
import Derived.BigRegion
section
namespace Go.Proofs.YtggfblodjanfkaaDoor
open Go.RowKit
theorem min_le {α : Type} {c : α → α → Int} (h : Cmp3 c) (a b d : α) : (c a b ≤ 0 ∧ c b d ≤ 0) → c a d = min (c a b) (c b d) := fun ⟨h1, h2⟩ => h.min a b d h1 h2
theorem neg_wrap {x y : Int} (h : y = -x) (hv : x = -1 ∨ x = 0 ∨ x = 1) : IntKind.i64.wrap (-y) = x := by
  rw [h, Int.neg_neg]
  rcases hv with rfl | rfl | rfl <;> rfl
theorem cmpE_eq (a b : EntD) (h1 : a.title = b.title) (h2 : a.link = b.link) (h3 : a.content = b.content) : (cmpE a b == 0) = eqE a b := by
  rcases hq : eqE a b with _ | _
  · rw [beq_eq_false_iff_ne]
    intro h
    have hu : cmpU a.upd b.upd = 0 := by
      unfold cmpE lexI at h
      split at h
      · assumption
      · exact absurd h (by assumption)
    have hi : cmpS a.id b.id = 0 := by
      unfold cmpE lexI at h
      rw [if_pos hu] at h
      exact h
    have he : a = b := by
      obtain ⟨i, t, l, c, u⟩ := a
      obtain ⟨i2, t2, l2, c2, u2⟩ := b
      simp only at h1 h2 h3 hu hi
      rw [h1, h2, h3, (cmpU_zero _ _).1 hu, (cmpS_zero _ _).1 hi]
    rw [(eqE_iff a b).2 he] at hq
    cases hq
  · rw [(eqE_iff a b).1 hq, cmpE_ok.self]
    rfl
theorem eblk_set5 {w : World} {b : Nat} {T : TypeId} {u0 u1 u2 u3 u4 : Value} (h : MBlk w b #[u0, u1, u2, u3, u4] T) (v0 v1 v2 v3 v4 : Value) : MBlk (((((w.setCell ⟨b, 0, none⟩ v0).setCell ⟨b, 1, none⟩ v1).setCell ⟨b, 2, none⟩ v2).setCell ⟨b, 3, none⟩ v3).setCell ⟨b, 4, none⟩ v4) b #[v0, v1, v2, v3, v4] T := by
  have h1 : MBlk (w.setCell ⟨b, 0, none⟩ v0) b #[v0, u1, u2, u3, u4] T := by
    have := heap_setCell_same _ b 0 _ _ v0 h
    rwa [show (#[u0, u1, u2, u3, u4] : Array Value).setIfInBounds 0 v0 = #[v0, u1, u2, u3, u4] from rfl] at this
  have h2 : MBlk ((w.setCell ⟨b, 0, none⟩ v0).setCell ⟨b, 1, none⟩ v1) b #[v0, v1, u2, u3, u4] T := by
    have := heap_setCell_same _ b 1 _ _ v1 h1
    rwa [show (#[v0, u1, u2, u3, u4] : Array Value).setIfInBounds 1 v1 = #[v0, v1, u2, u3, u4] from rfl] at this
  have h3 : MBlk (((w.setCell ⟨b, 0, none⟩ v0).setCell ⟨b, 1, none⟩ v1).setCell ⟨b, 2, none⟩ v2) b #[v0, v1, v2, u3, u4] T := by
    have := heap_setCell_same _ b 2 _ _ v2 h2
    rwa [show (#[v0, v1, u2, u3, u4] : Array Value).setIfInBounds 2 v2 = #[v0, v1, v2, u3, u4] from rfl] at this
  have h4 : MBlk ((((w.setCell ⟨b, 0, none⟩ v0).setCell ⟨b, 1, none⟩ v1).setCell ⟨b, 2, none⟩ v2).setCell ⟨b, 3, none⟩ v3) b #[v0, v1, v2, v3, u4] T := by
    have := heap_setCell_same _ b 3 _ _ v3 h3
    rwa [show (#[v0, v1, v2, u3, u4] : Array Value).setIfInBounds 3 v3 = #[v0, v1, v2, v3, u4] from rfl] at this
  have := heap_setCell_same _ b 4 _ _ v4 h4
  rwa [show (#[v0, v1, v2, v3, u4] : Array Value).setIfInBounds 4 v4 = #[v0, v1, v2, v3, v4] from rfl] at this
theorem eblk_far5 {w : World} {b k : Nat} {T : TypeId} {cs : Array Value} (h : MBlk w b cs T) (hne : b ≠ k) (v0 v1 v2 v3 v4 : Value) : MBlk (((((w.setCell ⟨k, 0, none⟩ v0).setCell ⟨k, 1, none⟩ v1).setCell ⟨k, 2, none⟩ v2).setCell ⟨k, 3, none⟩ v3).setCell ⟨k, 4, none⟩ v4) b cs T := by
  unfold MBlk
  rw [Below.heap_setCell _ _ _ _ hne, Below.heap_setCell _ _ _ _ hne, Below.heap_setCell _ _ _ _ hne, Below.heap_setCell _ _ _ _ hne, Below.heap_setCell _ _ _ _ hne]
  exact h
theorem below_set5 {B : Nat} {v w : World} {k : Nat} (h : Below B v w) (hk : B ≤ k) (v0 v1 v2 v3 v4 : Value) : Below B v (((((w.setCell ⟨k, 0, none⟩ v0).setCell ⟨k, 1, none⟩ v1).setCell ⟨k, 2, none⟩ v2).setCell ⟨k, 3, none⟩ v3).setCell ⟨k, 4, none⟩ v4) :=
  (((((h.setCell (p := ⟨k, 0, none⟩) hk v0).setCell (p := ⟨k, 1, none⟩) hk v1).setCell (p := ⟨k, 2, none⟩) hk v2).setCell (p := ⟨k, 3, none⟩) hk v3).setCell (p := ⟨k, 4, none⟩) hk v4)
set_option maxRecDepth 100000 in
set_option maxHeartbeats 64000000 in
theorem walk_OrdersA (f g h : FeedD) (v1 v2 v3 : Value) (w : World) (hf : FeedIs w f v1) (hg : FeedIs w g v2) (hh : FeedIs w h v3) (hWf : FWf f) (hWg : FWf g) (hWh : FWf h) (hT : TabW w) (hl1 : tlF 0 [f] = true) :
    Calls Tryd.prog 4 #[v1, v2, v3] w fun e' w' => e' = .returned (.bool true) ∧ Below w.heap.size w w' := by
  obtain ⟨p1, c1, q1, d1, rfl, hp1, he1⟩ := hf
  have hf : FeedIs w f (.agg #[.slice p1 f.path.length c1, .string f.id, .string f.title, .string f.link, .int .i64 f.upd, .slice q1 f.ents.length d1]) := ⟨p1, c1, q1, d1, rfl, hp1, he1⟩
  obtain ⟨p2, c2, q2, d2, rfl, hp2, he2⟩ := hg
  have hg : FeedIs w g (.agg #[.slice p2 g.path.length c2, .string g.id, .string g.title, .string g.link, .int .i64 g.upd, .slice q2 g.ents.length d2]) := ⟨p2, c2, q2, d2, rfl, hp2, he2⟩
  obtain ⟨p3, c3, q3, d3, rfl, hp3, he3⟩ := hh
  have hh : FeedIs w h (.agg #[.slice p3 h.path.length c3, .string h.id, .string h.title, .string h.link, .int .i64 h.upd, .slice q3 h.ents.length d3]) := ⟨p3, c3, q3, d3, rfl, hp3, he3⟩
  obtain ⟨W0, hW0⟩ : ∃ W0, W0 = (((w.alloc (.cells #[.slice p1 f.path.length c1, .string f.id, .string f.title, .string f.link, .int .i64 f.upd, .slice q1 f.ents.length d1] 25)).alloc (.cells #[.slice p2 g.path.length c2, .string g.id, .string g.title, .string g.link, .int .i64 g.upd, .slice q2 g.ents.length d2] 25)).alloc (.cells #[.slice p3 h.path.length c3, .string h.id, .string h.title, .string h.link, .int .i64 h.upd, .slice q3 h.ents.length d3] 25)) := ⟨_, rfl⟩
  have hB0 : Below w.heap.size w W0 := by rw [hW0]; exact ((((Below.refl _ _).alloc (by simp) _).alloc (by simp; try omega) _).alloc (by simp; try omega) _)
  have hX0 : FBox W0 w.heap.size f p1 c1 q1 d1 := by
    have hnn := FBox.new w f p1 c1 q1 d1
    rw [hW0]
    exact ((hnn).below ((Below.refl _ _).alloc (Nat.le_refl _) _)).below ((Below.refl _ _).alloc (Nat.le_refl _) _)
  have hX1 : FBox W0 (w.heap.size + 1) g p2 c2 q2 d2 := by
    have hnn := FBox.new (w.alloc (.cells #[.slice p1 f.path.length c1, .string f.id, .string f.title, .string f.link, .int .i64 f.upd, .slice q1 f.ents.length d1] 25)) g p2 c2 q2 d2
    rw [World.size_alloc] at hnn
    rw [hW0]
    exact (hnn).below ((Below.refl _ _).alloc (Nat.le_refl _) _)
  have hX2 : FBox W0 (w.heap.size + 2) h p3 c3 q3 d3 := by
    have hnn := FBox.new ((w.alloc (.cells #[.slice p1 f.path.length c1, .string f.id, .string f.title, .string f.link, .int .i64 f.upd, .slice q1 f.ents.length d1] 25)).alloc (.cells #[.slice p2 g.path.length c2, .string g.id, .string g.title, .string g.link, .int .i64 g.upd, .slice q2 g.ents.length d2] 25)) h p3 c3 q3 d3
    rw [World.size_alloc, World.size_alloc] at hnn
    rw [hW0]
    exact hnn
  have hS : FBox W0 w.heap.size f p1 c1 q1 d1 ∧ FBox W0 (w.heap.size + 1) g p2 c2 q2 d2 ∧ FBox W0 (w.heap.size + 2) h p3 c3 q3 d3 ∧ True := ⟨hX0, hX1, hX2, trivial⟩
  have HSB := Lib.hid (fun (u1 u2 : World) (hb : Below u1.heap.size u1 u2) (hss : FBox u1 w.heap.size f p1 c1 q1 d1 ∧ FBox u1 (w.heap.size + 1) g p2 c2 q2 d2 ∧ FBox u1 (w.heap.size + 2) h p3 c3 q3 d3 ∧ True) => (show FBox u2 w.heap.size f p1 c1 q1 d1 ∧ FBox u2 (w.heap.size + 1) g p2 c2 q2 d2 ∧ FBox u2 (w.heap.size + 2) h p3 c3 q3 d3 ∧ True from ⟨hss.1.below hb, hss.2.1.below hb, hss.2.2.1.below hb, trivial⟩))
  clear hX0 hX1 hX2
  have cA := fun wx (hb : Below w.heap.size w wx) => mc_alive wx (TabW_below hT hb)
  have qcA := Lib.hid cA
  have cL1 := fun wx (hb : Below w.heap.size w wx) => law_large f _ wx (hf.below hb) hWf
  have cL2 := fun wx (hb : Below w.heap.size w wx) => law_large g _ wx (hg.below hb) hWg
  have cL3 := fun wx (hb : Below w.heap.size w wx) => law_large h _ wx (hh.below hb) hWh
  have HS := Lib.hid hS
  have HB := Lib.hid hB0
  rw [hl1] at cL1
  have qcL1 := Lib.hid cL1
  clear cL1 cL2 cL3 hl1 hS hB0 hT hf hg hh hWf hWg hWh hp1 he1 hp2 he2 hp3 he3 cA
  go_enter Tryd.func4, Tryd.ntmps4
  go_upto_region 1 with fail
  simp only [← hW0]
  clear hW0
  obtain ⟨⟨f00, f01, f02, f03, f04, f05⟩, ⟨f10, f11, f12, f13, f14, f15⟩, ⟨f20, f21, f22, f23, f24, f25⟩, -⟩ := id HS.out
  go_wp2_with fail
  refine (qcL1.out _ HB.out).mono ?_
  rintro e1 w1 ⟨rfl, b1⟩
  replace HS := Lib.hid (HSB.out _ _ b1 HS.out)
  replace HB := Lib.hid (HB.out.trans (b1.mono HB.out.size))
  clear b1
  clear f00 f01 f02 f03 f04 f05 f10 f11 f12 f13 f14 f15 f20 f21 f22 f23 f24 f25
  obtain ⟨⟨f00, f01, f02, f03, f04, f05⟩, ⟨f10, f11, f12, f13, f14, f15⟩, ⟨f20, f21, f22, f23, f24, f25⟩, -⟩ := id HS.out
  go_wp2_with fail
  refine (qcA.out _ HB.out).mono ?_
  rintro e2 w2 ⟨rfl, b2⟩
  replace HS := Lib.hid (HSB.out _ _ b2 HS.out)
  replace HB := Lib.hid (HB.out.trans (b2.mono HB.out.size))
  clear b2
  clear f00 f01 f02 f03 f04 f05 f10 f11 f12 f13 f14 f15 f20 f21 f22 f23 f24 f25
  obtain ⟨⟨f00, f01, f02, f03, f04, f05⟩, ⟨f10, f11, f12, f13, f14, f15⟩, ⟨f20, f21, f22, f23, f24, f25⟩, -⟩ := id HS.out
  go_wp2
  go_ret
  exact ⟨rfl, HB.out⟩
set_option maxRecDepth 100000 in
set_option maxHeartbeats 64000000 in
theorem walk_OrdersB (f g h : FeedD) (v1 v2 v3 : Value) (w : World) (hf : FeedIs w f v1) (hg : FeedIs w g v2) (hh : FeedIs w h v3) (hWf : FWf f) (hWg : FWf g) (hWh : FWf h) (hT : TabW w) (hl1 : tlF 0 [f] = false) (hl2 : tlF 0 [g] = true) :
    Calls Tryd.prog 4 #[v1, v2, v3] w fun e' w' => e' = .returned (.bool true) ∧ Below w.heap.size w w' := by
  obtain ⟨p1, c1, q1, d1, rfl, hp1, he1⟩ := hf
  have hf : FeedIs w f (.agg #[.slice p1 f.path.length c1, .string f.id, .string f.title, .string f.link, .int .i64 f.upd, .slice q1 f.ents.length d1]) := ⟨p1, c1, q1, d1, rfl, hp1, he1⟩
  obtain ⟨p2, c2, q2, d2, rfl, hp2, he2⟩ := hg
  have hg : FeedIs w g (.agg #[.slice p2 g.path.length c2, .string g.id, .string g.title, .string g.link, .int .i64 g.upd, .slice q2 g.ents.length d2]) := ⟨p2, c2, q2, d2, rfl, hp2, he2⟩
  obtain ⟨p3, c3, q3, d3, rfl, hp3, he3⟩ := hh
  have hh : FeedIs w h (.agg #[.slice p3 h.path.length c3, .string h.id, .string h.title, .string h.link, .int .i64 h.upd, .slice q3 h.ents.length d3]) := ⟨p3, c3, q3, d3, rfl, hp3, he3⟩
  obtain ⟨W0, hW0⟩ : ∃ W0, W0 = (((w.alloc (.cells #[.slice p1 f.path.length c1, .string f.id, .string f.title, .string f.link, .int .i64 f.upd, .slice q1 f.ents.length d1] 25)).alloc (.cells #[.slice p2 g.path.length c2, .string g.id, .string g.title, .string g.link, .int .i64 g.upd, .slice q2 g.ents.length d2] 25)).alloc (.cells #[.slice p3 h.path.length c3, .string h.id, .string h.title, .string h.link, .int .i64 h.upd, .slice q3 h.ents.length d3] 25)) := ⟨_, rfl⟩
  have hB0 : Below w.heap.size w W0 := by rw [hW0]; exact ((((Below.refl _ _).alloc (by simp) _).alloc (by simp; try omega) _).alloc (by simp; try omega) _)
  have hX0 : FBox W0 w.heap.size f p1 c1 q1 d1 := by
    have hnn := FBox.new w f p1 c1 q1 d1
    rw [hW0]
    exact ((hnn).below ((Below.refl _ _).alloc (Nat.le_refl _) _)).below ((Below.refl _ _).alloc (Nat.le_refl _) _)
  have hX1 : FBox W0 (w.heap.size + 1) g p2 c2 q2 d2 := by
    have hnn := FBox.new (w.alloc (.cells #[.slice p1 f.path.length c1, .string f.id, .string f.title, .string f.link, .int .i64 f.upd, .slice q1 f.ents.length d1] 25)) g p2 c2 q2 d2
    rw [World.size_alloc] at hnn
    rw [hW0]
    exact (hnn).below ((Below.refl _ _).alloc (Nat.le_refl _) _)
  have hX2 : FBox W0 (w.heap.size + 2) h p3 c3 q3 d3 := by
    have hnn := FBox.new ((w.alloc (.cells #[.slice p1 f.path.length c1, .string f.id, .string f.title, .string f.link, .int .i64 f.upd, .slice q1 f.ents.length d1] 25)).alloc (.cells #[.slice p2 g.path.length c2, .string g.id, .string g.title, .string g.link, .int .i64 g.upd, .slice q2 g.ents.length d2] 25)) h p3 c3 q3 d3
    rw [World.size_alloc, World.size_alloc] at hnn
    rw [hW0]
    exact hnn
  have hS : FBox W0 w.heap.size f p1 c1 q1 d1 ∧ FBox W0 (w.heap.size + 1) g p2 c2 q2 d2 ∧ FBox W0 (w.heap.size + 2) h p3 c3 q3 d3 ∧ True := ⟨hX0, hX1, hX2, trivial⟩
  have HSB := Lib.hid (fun (u1 u2 : World) (hb : Below u1.heap.size u1 u2) (hss : FBox u1 w.heap.size f p1 c1 q1 d1 ∧ FBox u1 (w.heap.size + 1) g p2 c2 q2 d2 ∧ FBox u1 (w.heap.size + 2) h p3 c3 q3 d3 ∧ True) => (show FBox u2 w.heap.size f p1 c1 q1 d1 ∧ FBox u2 (w.heap.size + 1) g p2 c2 q2 d2 ∧ FBox u2 (w.heap.size + 2) h p3 c3 q3 d3 ∧ True from ⟨hss.1.below hb, hss.2.1.below hb, hss.2.2.1.below hb, trivial⟩))
  clear hX0 hX1 hX2
  have cA := fun wx (hb : Below w.heap.size w wx) => mc_alive wx (TabW_below hT hb)
  have qcA := Lib.hid cA
  have cL1 := fun wx (hb : Below w.heap.size w wx) => law_large f _ wx (hf.below hb) hWf
  have cL2 := fun wx (hb : Below w.heap.size w wx) => law_large g _ wx (hg.below hb) hWg
  have cL3 := fun wx (hb : Below w.heap.size w wx) => law_large h _ wx (hh.below hb) hWh
  have HS := Lib.hid hS
  have HB := Lib.hid hB0
  rw [hl1] at cL1
  have qcL1 := Lib.hid cL1
  rw [hl2] at cL2
  have qcL2 := Lib.hid cL2
  clear cL1 cL2 cL3 hl1 hl2 hS hB0 hT hf hg hh hWf hWg hWh hp1 he1 hp2 he2 hp3 he3 cA
  go_enter Tryd.func4, Tryd.ntmps4
  go_upto_region 1 with fail
  simp only [← hW0]
  clear hW0
  obtain ⟨⟨f00, f01, f02, f03, f04, f05⟩, ⟨f10, f11, f12, f13, f14, f15⟩, ⟨f20, f21, f22, f23, f24, f25⟩, -⟩ := id HS.out
  go_wp2_with fail
  refine (qcL1.out _ HB.out).mono ?_
  rintro e1 w1 ⟨rfl, b1⟩
  replace HS := Lib.hid (HSB.out _ _ b1 HS.out)
  replace HB := Lib.hid (HB.out.trans (b1.mono HB.out.size))
  clear b1
  clear f00 f01 f02 f03 f04 f05 f10 f11 f12 f13 f14 f15 f20 f21 f22 f23 f24 f25
  obtain ⟨⟨f00, f01, f02, f03, f04, f05⟩, ⟨f10, f11, f12, f13, f14, f15⟩, ⟨f20, f21, f22, f23, f24, f25⟩, -⟩ := id HS.out
  go_wp2_with fail
  refine (qcL2.out _ HB.out).mono ?_
  rintro e2 w2 ⟨rfl, b2⟩
  replace HS := Lib.hid (HSB.out _ _ b2 HS.out)
  replace HB := Lib.hid (HB.out.trans (b2.mono HB.out.size))
  clear b2
  clear f00 f01 f02 f03 f04 f05 f10 f11 f12 f13 f14 f15 f20 f21 f22 f23 f24 f25
  obtain ⟨⟨f00, f01, f02, f03, f04, f05⟩, ⟨f10, f11, f12, f13, f14, f15⟩, ⟨f20, f21, f22, f23, f24, f25⟩, -⟩ := id HS.out
  go_wp2_with fail
  refine (qcA.out _ HB.out).mono ?_
  rintro e3 w3 ⟨rfl, b3⟩
  replace HS := Lib.hid (HSB.out _ _ b3 HS.out)
  replace HB := Lib.hid (HB.out.trans (b3.mono HB.out.size))
  clear b3
  clear f00 f01 f02 f03 f04 f05 f10 f11 f12 f13 f14 f15 f20 f21 f22 f23 f24 f25
  obtain ⟨⟨f00, f01, f02, f03, f04, f05⟩, ⟨f10, f11, f12, f13, f14, f15⟩, ⟨f20, f21, f22, f23, f24, f25⟩, -⟩ := id HS.out
  go_wp2
  go_ret
  exact ⟨rfl, HB.out⟩
set_option maxRecDepth 100000 in
set_option maxHeartbeats 64000000 in
theorem walk_OrdersC (f g h : FeedD) (v1 v2 v3 : Value) (w : World) (hf : FeedIs w f v1) (hg : FeedIs w g v2) (hh : FeedIs w h v3) (hWf : FWf f) (hWg : FWf g) (hWh : FWf h) (hT : TabW w) (hl1 : tlF 0 [f] = false) (hl2 : tlF 0 [g] = false) (hl3 : tlF 0 [h] = true) :
    Calls Tryd.prog 4 #[v1, v2, v3] w fun e' w' => e' = .returned (.bool true) ∧ Below w.heap.size w w' := by
  obtain ⟨p1, c1, q1, d1, rfl, hp1, he1⟩ := hf
  have hf : FeedIs w f (.agg #[.slice p1 f.path.length c1, .string f.id, .string f.title, .string f.link, .int .i64 f.upd, .slice q1 f.ents.length d1]) := ⟨p1, c1, q1, d1, rfl, hp1, he1⟩
  obtain ⟨p2, c2, q2, d2, rfl, hp2, he2⟩ := hg
  have hg : FeedIs w g (.agg #[.slice p2 g.path.length c2, .string g.id, .string g.title, .string g.link, .int .i64 g.upd, .slice q2 g.ents.length d2]) := ⟨p2, c2, q2, d2, rfl, hp2, he2⟩
  obtain ⟨p3, c3, q3, d3, rfl, hp3, he3⟩ := hh
  have hh : FeedIs w h (.agg #[.slice p3 h.path.length c3, .string h.id, .string h.title, .string h.link, .int .i64 h.upd, .slice q3 h.ents.length d3]) := ⟨p3, c3, q3, d3, rfl, hp3, he3⟩
  obtain ⟨W0, hW0⟩ : ∃ W0, W0 = (((w.alloc (.cells #[.slice p1 f.path.length c1, .string f.id, .string f.title, .string f.link, .int .i64 f.upd, .slice q1 f.ents.length d1] 25)).alloc (.cells #[.slice p2 g.path.length c2, .string g.id, .string g.title, .string g.link, .int .i64 g.upd, .slice q2 g.ents.length d2] 25)).alloc (.cells #[.slice p3 h.path.length c3, .string h.id, .string h.title, .string h.link, .int .i64 h.upd, .slice q3 h.ents.length d3] 25)) := ⟨_, rfl⟩
  have hB0 : Below w.heap.size w W0 := by rw [hW0]; exact ((((Below.refl _ _).alloc (by simp) _).alloc (by simp; try omega) _).alloc (by simp; try omega) _)
  have hX0 : FBox W0 w.heap.size f p1 c1 q1 d1 := by
    have hnn := FBox.new w f p1 c1 q1 d1
    rw [hW0]
    exact ((hnn).below ((Below.refl _ _).alloc (Nat.le_refl _) _)).below ((Below.refl _ _).alloc (Nat.le_refl _) _)
  have hX1 : FBox W0 (w.heap.size + 1) g p2 c2 q2 d2 := by
    have hnn := FBox.new (w.alloc (.cells #[.slice p1 f.path.length c1, .string f.id, .string f.title, .string f.link, .int .i64 f.upd, .slice q1 f.ents.length d1] 25)) g p2 c2 q2 d2
    rw [World.size_alloc] at hnn
    rw [hW0]
    exact (hnn).below ((Below.refl _ _).alloc (Nat.le_refl _) _)
  have hX2 : FBox W0 (w.heap.size + 2) h p3 c3 q3 d3 := by
    have hnn := FBox.new ((w.alloc (.cells #[.slice p1 f.path.length c1, .string f.id, .string f.title, .string f.link, .int .i64 f.upd, .slice q1 f.ents.length d1] 25)).alloc (.cells #[.slice p2 g.path.length c2, .string g.id, .string g.title, .string g.link, .int .i64 g.upd, .slice q2 g.ents.length d2] 25)) h p3 c3 q3 d3
    rw [World.size_alloc, World.size_alloc] at hnn
    rw [hW0]
    exact hnn
  have hS : FBox W0 w.heap.size f p1 c1 q1 d1 ∧ FBox W0 (w.heap.size + 1) g p2 c2 q2 d2 ∧ FBox W0 (w.heap.size + 2) h p3 c3 q3 d3 ∧ True := ⟨hX0, hX1, hX2, trivial⟩
  have HSB := Lib.hid (fun (u1 u2 : World) (hb : Below u1.heap.size u1 u2) (hss : FBox u1 w.heap.size f p1 c1 q1 d1 ∧ FBox u1 (w.heap.size + 1) g p2 c2 q2 d2 ∧ FBox u1 (w.heap.size + 2) h p3 c3 q3 d3 ∧ True) => (show FBox u2 w.heap.size f p1 c1 q1 d1 ∧ FBox u2 (w.heap.size + 1) g p2 c2 q2 d2 ∧ FBox u2 (w.heap.size + 2) h p3 c3 q3 d3 ∧ True from ⟨hss.1.below hb, hss.2.1.below hb, hss.2.2.1.below hb, trivial⟩))
  clear hX0 hX1 hX2
  have cA := fun wx (hb : Below w.heap.size w wx) => mc_alive wx (TabW_below hT hb)
  have qcA := Lib.hid cA
  have cL1 := fun wx (hb : Below w.heap.size w wx) => law_large f _ wx (hf.below hb) hWf
  have cL2 := fun wx (hb : Below w.heap.size w wx) => law_large g _ wx (hg.below hb) hWg
  have cL3 := fun wx (hb : Below w.heap.size w wx) => law_large h _ wx (hh.below hb) hWh
  have HS := Lib.hid hS
  have HB := Lib.hid hB0
  rw [hl1] at cL1
  have qcL1 := Lib.hid cL1
  rw [hl2] at cL2
  have qcL2 := Lib.hid cL2
  rw [hl3] at cL3
  have qcL3 := Lib.hid cL3
  clear cL1 cL2 cL3 hl1 hl2 hl3 hS hB0 hT hf hg hh hWf hWg hWh hp1 he1 hp2 he2 hp3 he3 cA
  go_enter Tryd.func4, Tryd.ntmps4
  go_upto_region 1 with fail
  simp only [← hW0]
  clear hW0
  obtain ⟨⟨f00, f01, f02, f03, f04, f05⟩, ⟨f10, f11, f12, f13, f14, f15⟩, ⟨f20, f21, f22, f23, f24, f25⟩, -⟩ := id HS.out
  go_wp2_with fail
  refine (qcL1.out _ HB.out).mono ?_
  rintro e1 w1 ⟨rfl, b1⟩
  replace HS := Lib.hid (HSB.out _ _ b1 HS.out)
  replace HB := Lib.hid (HB.out.trans (b1.mono HB.out.size))
  clear b1
  clear f00 f01 f02 f03 f04 f05 f10 f11 f12 f13 f14 f15 f20 f21 f22 f23 f24 f25
  obtain ⟨⟨f00, f01, f02, f03, f04, f05⟩, ⟨f10, f11, f12, f13, f14, f15⟩, ⟨f20, f21, f22, f23, f24, f25⟩, -⟩ := id HS.out
  go_wp2_with fail
  refine (qcL2.out _ HB.out).mono ?_
  rintro e2 w2 ⟨rfl, b2⟩
  replace HS := Lib.hid (HSB.out _ _ b2 HS.out)
  replace HB := Lib.hid (HB.out.trans (b2.mono HB.out.size))
  clear b2
  clear f00 f01 f02 f03 f04 f05 f10 f11 f12 f13 f14 f15 f20 f21 f22 f23 f24 f25
  obtain ⟨⟨f00, f01, f02, f03, f04, f05⟩, ⟨f10, f11, f12, f13, f14, f15⟩, ⟨f20, f21, f22, f23, f24, f25⟩, -⟩ := id HS.out
  go_wp2_with fail
  refine (qcL3.out _ HB.out).mono ?_
  rintro e3 w3 ⟨rfl, b3⟩
  replace HS := Lib.hid (HSB.out _ _ b3 HS.out)
  replace HB := Lib.hid (HB.out.trans (b3.mono HB.out.size))
  clear b3
  clear f00 f01 f02 f03 f04 f05 f10 f11 f12 f13 f14 f15 f20 f21 f22 f23 f24 f25
  obtain ⟨⟨f00, f01, f02, f03, f04, f05⟩, ⟨f10, f11, f12, f13, f14, f15⟩, ⟨f20, f21, f22, f23, f24, f25⟩, -⟩ := id HS.out
  go_wp2_with fail
  refine (qcA.out _ HB.out).mono ?_
  rintro e4 w4 ⟨rfl, b4⟩
  replace HS := Lib.hid (HSB.out _ _ b4 HS.out)
  replace HB := Lib.hid (HB.out.trans (b4.mono HB.out.size))
  clear b4
  clear f00 f01 f02 f03 f04 f05 f10 f11 f12 f13 f14 f15 f20 f21 f22 f23 f24 f25
  obtain ⟨⟨f00, f01, f02, f03, f04, f05⟩, ⟨f10, f11, f12, f13, f14, f15⟩, ⟨f20, f21, f22, f23, f24, f25⟩, -⟩ := id HS.out
  go_wp2
  go_ret
  exact ⟨rfl, HB.out⟩
set_option maxRecDepth 100000 in
set_option maxHeartbeats 64000000 in
theorem walk_OrdersD (f g h : FeedD) (v1 v2 v3 : Value) (w : World) (hf : FeedIs w f v1) (hg : FeedIs w g v2) (hh : FeedIs w h v3) (hWf : FWf f) (hWg : FWf g) (hWh : FWf h) (hT : TabW w) (hl1 : tlF 0 [f] = false) (hl2 : tlF 0 [g] = false) (hl3 : tlF 0 [h] = false) :
    Calls Tryd.prog 4 #[v1, v2, v3] w fun e' w' => e' = .returned (.bool true) ∧ Below w.heap.size w w' := by
  obtain ⟨p1, c1, q1, d1, rfl, hp1, he1⟩ := hf
  have hf : FeedIs w f (.agg #[.slice p1 f.path.length c1, .string f.id, .string f.title, .string f.link, .int .i64 f.upd, .slice q1 f.ents.length d1]) := ⟨p1, c1, q1, d1, rfl, hp1, he1⟩
  obtain ⟨p2, c2, q2, d2, rfl, hp2, he2⟩ := hg
  have hg : FeedIs w g (.agg #[.slice p2 g.path.length c2, .string g.id, .string g.title, .string g.link, .int .i64 g.upd, .slice q2 g.ents.length d2]) := ⟨p2, c2, q2, d2, rfl, hp2, he2⟩
  obtain ⟨p3, c3, q3, d3, rfl, hp3, he3⟩ := hh
  have hh : FeedIs w h (.agg #[.slice p3 h.path.length c3, .string h.id, .string h.title, .string h.link, .int .i64 h.upd, .slice q3 h.ents.length d3]) := ⟨p3, c3, q3, d3, rfl, hp3, he3⟩
  obtain ⟨W0, hW0⟩ : ∃ W0, W0 = (((w.alloc (.cells #[.slice p1 f.path.length c1, .string f.id, .string f.title, .string f.link, .int .i64 f.upd, .slice q1 f.ents.length d1] 25)).alloc (.cells #[.slice p2 g.path.length c2, .string g.id, .string g.title, .string g.link, .int .i64 g.upd, .slice q2 g.ents.length d2] 25)).alloc (.cells #[.slice p3 h.path.length c3, .string h.id, .string h.title, .string h.link, .int .i64 h.upd, .slice q3 h.ents.length d3] 25)) := ⟨_, rfl⟩
  have hB0 : Below w.heap.size w W0 := by rw [hW0]; exact ((((Below.refl _ _).alloc (by simp) _).alloc (by simp; try omega) _).alloc (by simp; try omega) _)
  have hX0 : FBox W0 w.heap.size f p1 c1 q1 d1 := by
    have hnn := FBox.new w f p1 c1 q1 d1
    rw [hW0]
    exact ((hnn).below ((Below.refl _ _).alloc (Nat.le_refl _) _)).below ((Below.refl _ _).alloc (Nat.le_refl _) _)
  have hX1 : FBox W0 (w.heap.size + 1) g p2 c2 q2 d2 := by
    have hnn := FBox.new (w.alloc (.cells #[.slice p1 f.path.length c1, .string f.id, .string f.title, .string f.link, .int .i64 f.upd, .slice q1 f.ents.length d1] 25)) g p2 c2 q2 d2
    rw [World.size_alloc] at hnn
    rw [hW0]
    exact (hnn).below ((Below.refl _ _).alloc (Nat.le_refl _) _)
  have hX2 : FBox W0 (w.heap.size + 2) h p3 c3 q3 d3 := by
    have hnn := FBox.new ((w.alloc (.cells #[.slice p1 f.path.length c1, .string f.id, .string f.title, .string f.link, .int .i64 f.upd, .slice q1 f.ents.length d1] 25)).alloc (.cells #[.slice p2 g.path.length c2, .string g.id, .string g.title, .string g.link, .int .i64 g.upd, .slice q2 g.ents.length d2] 25)) h p3 c3 q3 d3
    rw [World.size_alloc, World.size_alloc] at hnn
    rw [hW0]
    exact hnn
  have hS : FBox W0 w.heap.size f p1 c1 q1 d1 ∧ FBox W0 (w.heap.size + 1) g p2 c2 q2 d2 ∧ FBox W0 (w.heap.size + 2) h p3 c3 q3 d3 ∧ True := ⟨hX0, hX1, hX2, trivial⟩
  have HSB := Lib.hid (fun (u1 u2 : World) (hb : Below u1.heap.size u1 u2) (hss : FBox u1 w.heap.size f p1 c1 q1 d1 ∧ FBox u1 (w.heap.size + 1) g p2 c2 q2 d2 ∧ FBox u1 (w.heap.size + 2) h p3 c3 q3 d3 ∧ True) => (show FBox u2 w.heap.size f p1 c1 q1 d1 ∧ FBox u2 (w.heap.size + 1) g p2 c2 q2 d2 ∧ FBox u2 (w.heap.size + 2) h p3 c3 q3 d3 ∧ True from ⟨hss.1.below hb, hss.2.1.below hb, hss.2.2.1.below hb, trivial⟩))
  clear hX0 hX1 hX2
  have cA := fun wx (hb : Below w.heap.size w wx) => mc_alive wx (TabW_below hT hb)
  have qcA := Lib.hid cA
  have cL1 := fun wx (hb : Below w.heap.size w wx) => law_large f _ wx (hf.below hb) hWf
  have cL2 := fun wx (hb : Below w.heap.size w wx) => law_large g _ wx (hg.below hb) hWg
  have cL3 := fun wx (hb : Below w.heap.size w wx) => law_large h _ wx (hh.below hb) hWh
  have HS := Lib.hid hS
  have HB := Lib.hid hB0
  rw [hl1] at cL1
  have qcL1 := Lib.hid cL1
  rw [hl2] at cL2
  have qcL2 := Lib.hid cL2
  rw [hl3] at cL3
  have qcL3 := Lib.hid cL3
  have hm1 := ((tlF_small [f] 0 hl1 (by omega)).2 f (List.mem_singleton.2 rfl)).plen
  have hm2 := ((tlF_small [g] 0 hl2 (by omega)).2 g (List.mem_singleton.2 rfl)).plen
  have hm3 := ((tlF_small [h] 0 hl3 (by omega)).2 h (List.mem_singleton.2 rfl)).plen
  have k1 := fun wx (hb : Below w.heap.size w wx) => mc_cmpF f g _ _ wx (hf.below hb) (hg.below hb) (by omega) (by omega)
  have k1p := fun wx (hb : Below w.heap.size w wx) => mc_paths f.path g.path p1 c1 p2 c2 wx (hp1.below hb) (hp2.below hb) (by omega) (by omega)
  have k2 := fun wx (hb : Below w.heap.size w wx) => mc_cmpF g h _ _ wx (hg.below hb) (hh.below hb) (by omega) (by omega)
  have k2p := fun wx (hb : Below w.heap.size w wx) => mc_paths g.path h.path p2 c2 p3 c3 wx (hp2.below hb) (hp3.below hb) (by omega) (by omega)
  have k3 := fun wx (hb : Below w.heap.size w wx) => mc_cmpF f h _ _ wx (hf.below hb) (hh.below hb) (by omega) (by omega)
  have k3p := fun wx (hb : Below w.heap.size w wx) => mc_paths f.path h.path p1 c1 p3 c3 wx (hp1.below hb) (hp3.below hb) (by omega) (by omega)
  have k4 := fun wx (hb : Below w.heap.size w wx) => mc_cmpF g f _ _ wx (hg.below hb) (hf.below hb) (by omega) (by omega)
  have k4p := fun wx (hb : Below w.heap.size w wx) => mc_paths g.path f.path p2 c2 p1 c1 wx (hp2.below hb) (hp1.below hb) (by omega) (by omega)
  have vX := cmpF_ok.val f g
  have mX := min_le cmpF_ok f g h
  have aX := cmpF_ok.anti g f
  have vP := cmpP_ok.val f.path g.path
  have mP := min_le cmpP_ok f.path g.path h.path
  have aP := cmpP_ok.anti g.path f.path
  have nX := neg_wrap aX vX
  have nP := neg_wrap aP vP
  clear aX aP
  generalize cmpF f g = X at *
  generalize cmpF g h = Y at *
  generalize cmpF f h = Z at *
  generalize cmpF g f = X' at *
  generalize cmpP f.path g.path = P at *
  generalize cmpP g.path h.path = Q at *
  generalize cmpP f.path h.path = Z2 at *
  generalize cmpP g.path f.path = P' at *
  obtain ⟨A, hA⟩ : ∃ A : EntD, A = ⟨f.id, ⟨#[]⟩, ⟨#[]⟩, ⟨#[]⟩, f.upd⟩ := ⟨_, rfl⟩
  obtain ⟨B, hB⟩ : ∃ B : EntD, B = ⟨g.id, ⟨#[]⟩, ⟨#[]⟩, ⟨#[]⟩, g.upd⟩ := ⟨_, rfl⟩
  have j1 := fun wx => mc_cmpE A B wx
  have j2 := fun wx => mc_cmpE B A wx
  have jv := cmpE_ok.val A B
  have ja := cmpE_ok.anti B A
  have jn := neg_wrap ja jv
  have je := cmpE_eq A B (by rw [hA, hB]) (by rw [hA, hB]) (by rw [hA, hB])
  have jq := fun wx => ment_eql A B wx
  clear ja jv
  generalize cmpE A B = C at *
  generalize cmpE B A = C' at *
  generalize eqE A B = q at *
  have qk1 := Lib.hid k1
  have qk1p := Lib.hid k1p
  have qk2 := Lib.hid k2
  have qk2p := Lib.hid k2p
  have qk3 := Lib.hid k3
  have qk3p := Lib.hid k3p
  have qk4 := Lib.hid k4
  have qk4p := Lib.hid k4p
  have qmX := Lib.hid mX
  have qmP := Lib.hid mP
  have qnX := Lib.hid nX
  have qnP := Lib.hid nP
  have qj1 := Lib.hid j1
  have qj2 := Lib.hid j2
  have qjn := Lib.hid jn
  have qje := Lib.hid je
  have qjq := Lib.hid jq
  have qhA := Lib.hid hA
  have qhB := Lib.hid hB
  clear k1 k2 k3 k4 k1p k2p k3p k4p mX mP nX nP vX vP j1 j2 jn je jq hA hB hm1 hm2 hm3 hl1 hl2 hl3 cL1 cL2 cL3 hS hB0 hT hf hg hh hWf hWg hWh hp1 he1 hp2 he2 hp3 he3 cA
  go_enter Tryd.func4, Tryd.ntmps4
  go_upto_region 1 with fail
  simp only [← hW0]
  clear hW0
  obtain ⟨⟨f00, f01, f02, f03, f04, f05⟩, ⟨f10, f11, f12, f13, f14, f15⟩, ⟨f20, f21, f22, f23, f24, f25⟩, -⟩ := id HS.out
  go_wp2_with fail
  refine (qcL1.out _ HB.out).mono ?_
  rintro e1 w1 ⟨rfl, b1⟩
  replace HS := Lib.hid (HSB.out _ _ b1 HS.out)
  replace HB := Lib.hid (HB.out.trans (b1.mono HB.out.size))
  clear b1
  clear f00 f01 f02 f03 f04 f05 f10 f11 f12 f13 f14 f15 f20 f21 f22 f23 f24 f25
  obtain ⟨⟨f00, f01, f02, f03, f04, f05⟩, ⟨f10, f11, f12, f13, f14, f15⟩, ⟨f20, f21, f22, f23, f24, f25⟩, -⟩ := id HS.out
  go_wp2_with fail
  refine (qcL2.out _ HB.out).mono ?_
  rintro e2 w2 ⟨rfl, b2⟩
  replace HS := Lib.hid (HSB.out _ _ b2 HS.out)
  replace HB := Lib.hid (HB.out.trans (b2.mono HB.out.size))
  clear b2
  clear f00 f01 f02 f03 f04 f05 f10 f11 f12 f13 f14 f15 f20 f21 f22 f23 f24 f25
  obtain ⟨⟨f00, f01, f02, f03, f04, f05⟩, ⟨f10, f11, f12, f13, f14, f15⟩, ⟨f20, f21, f22, f23, f24, f25⟩, -⟩ := id HS.out
  go_wp2_with fail
  refine (qcL3.out _ HB.out).mono ?_
  rintro e3 w3 ⟨rfl, b3⟩
  replace HS := Lib.hid (HSB.out _ _ b3 HS.out)
  replace HB := Lib.hid (HB.out.trans (b3.mono HB.out.size))
  clear b3
  clear f00 f01 f02 f03 f04 f05 f10 f11 f12 f13 f14 f15 f20 f21 f22 f23 f24 f25
  clear qcL1 qcL2 qcL3
  obtain ⟨⟨f00, f01, f02, f03, f04, f05⟩, ⟨f10, f11, f12, f13, f14, f15⟩, ⟨f20, f21, f22, f23, f24, f25⟩, -⟩ := id HS.out
  go_wp2
  have SD4 : FBox w3.drew w.heap.size f p1 c1 q1 d1 ∧ FBox w3.drew (w.heap.size + 1) g p2 c2 q2 d2 ∧ FBox w3.drew (w.heap.size + 2) h p3 c3 q3 d3 ∧ True := HS.out
  have HD4 := Lib.hid (show Below w.heap.size w w3.drew from HB.out.drew)
  clear HS HB
  clear f00 f01 f02 f03 f04 f05 f10 f11 f12 f13 f14 f15 f20 f21 f22 f23 f24 f25
  refine wp_region_late (S := fun w' => FBox w' w.heap.size f p1 c1 q1 d1 ∧ FBox w' (w.heap.size + 1) g p2 c2 q2 d2 ∧ FBox w' (w.heap.size + 2) h p3 c3 q3 d3 ∧ True) (D := []) (by kernel_rfl) ?_
  refine anyL_take (i := 0) (oi := { dst := some 26, op := Go.Op.load 25 (Go.Operand.tmp 3), type := 25, pos := "law.go:79", after := #[], guard := none }) (v := ?_) rfl (by decide) (by kernel_rfl) (by kernel_rfl) (by kernel_rfl) (by kernel_rfl) (fun _ _ _ h => h) (Or.inl ⟨by rfl, ?_⟩) SD4 ?_
  rotate_left
  · intro wz hSz
    obtain ⟨⟨z0, z1, z2, z3, z4, z5⟩, ⟨z6, z7, z8, z9, z10, z11⟩, ⟨z12, z13, z14, z15, z16, z17⟩, -⟩ := hSz
    go_simp
    (try with_reducible rfl)
  try simp only [Act.put, List.setIfInBounds_toArray, List.set_cons_zero, List.set_cons_succ]
  refine anyL_take (i := 1) (oi := { dst := some 27, op := Go.Op.load 25 (Go.Operand.tmp 4), type := 25, pos := "law.go:79", after := #[], guard := none }) (v := ?_) rfl (by decide) (by kernel_rfl) (by kernel_rfl) (by kernel_rfl) (by kernel_rfl) (fun _ _ _ h => h) (Or.inl ⟨by rfl, ?_⟩) SD4 ?_
  rotate_left
  · intro wz hSz
    obtain ⟨⟨z0, z1, z2, z3, z4, z5⟩, ⟨z6, z7, z8, z9, z10, z11⟩, ⟨z12, z13, z14, z15, z16, z17⟩, -⟩ := hSz
    go_simp
    (try with_reducible rfl)
  try simp only [Act.put, List.setIfInBounds_toArray, List.set_cons_zero, List.set_cons_succ]
  refine anyL_take (i := 3) (oi := { dst := some 29, op := Go.Op.load 25 (Go.Operand.tmp 4), type := 25, pos := "law.go:79", after := #[], guard := none }) (v := ?_) rfl (by decide) (by kernel_rfl) (by kernel_rfl) (by kernel_rfl) (by kernel_rfl) (fun _ _ _ h => h) (Or.inl ⟨by rfl, ?_⟩) SD4 ?_
  rotate_left
  · intro wz hSz
    obtain ⟨⟨z0, z1, z2, z3, z4, z5⟩, ⟨z6, z7, z8, z9, z10, z11⟩, ⟨z12, z13, z14, z15, z16, z17⟩, -⟩ := hSz
    go_simp
    (try with_reducible rfl)
  try simp only [Act.put, List.setIfInBounds_toArray, List.set_cons_zero, List.set_cons_succ]
  refine anyL_take (i := 4) (oi := { dst := some 30, op := Go.Op.load 25 (Go.Operand.tmp 5), type := 25, pos := "law.go:79", after := #[], guard := none }) (v := ?_) rfl (by decide) (by kernel_rfl) (by kernel_rfl) (by kernel_rfl) (by kernel_rfl) (fun _ _ _ h => h) (Or.inl ⟨by rfl, ?_⟩) SD4 ?_
  rotate_left
  · intro wz hSz
    obtain ⟨⟨z0, z1, z2, z3, z4, z5⟩, ⟨z6, z7, z8, z9, z10, z11⟩, ⟨z12, z13, z14, z15, z16, z17⟩, -⟩ := hSz
    go_simp
    (try with_reducible rfl)
  try simp only [Act.put, List.setIfInBounds_toArray, List.set_cons_zero, List.set_cons_succ]
  refine anyL_take (i := 6) (oi := { dst := some 32, op := Go.Op.load 25 (Go.Operand.tmp 3), type := 25, pos := "law.go:79", after := #[], guard := none }) (v := ?_) rfl (by decide) (by kernel_rfl) (by kernel_rfl) (by kernel_rfl) (by kernel_rfl) (fun _ _ _ h => h) (Or.inl ⟨by rfl, ?_⟩) SD4 ?_
  rotate_left
  · intro wz hSz
    obtain ⟨⟨z0, z1, z2, z3, z4, z5⟩, ⟨z6, z7, z8, z9, z10, z11⟩, ⟨z12, z13, z14, z15, z16, z17⟩, -⟩ := hSz
    go_simp
    (try with_reducible rfl)
  try simp only [Act.put, List.setIfInBounds_toArray, List.set_cons_zero, List.set_cons_succ]
  refine anyL_take (i := 7) (oi := { dst := some 33, op := Go.Op.load 25 (Go.Operand.tmp 5), type := 25, pos := "law.go:79", after := #[], guard := none }) (v := ?_) rfl (by decide) (by kernel_rfl) (by kernel_rfl) (by kernel_rfl) (by kernel_rfl) (fun _ _ _ h => h) (Or.inl ⟨by rfl, ?_⟩) SD4 ?_
  rotate_left
  · intro wz hSz
    obtain ⟨⟨z0, z1, z2, z3, z4, z5⟩, ⟨z6, z7, z8, z9, z10, z11⟩, ⟨z12, z13, z14, z15, z16, z17⟩, -⟩ := hSz
    go_simp
    (try with_reducible rfl)
  try simp only [Act.put, List.setIfInBounds_toArray, List.set_cons_zero, List.set_cons_succ]
  refine anyL_ready (rs := [2]) (by kernel_rfl) (by simp) ?_
  refine AllL.cons (o := { dst := some 28, op := Go.Op.call { callee := Go.Callee.value (Go.Operand.func 13), args := #[Go.Operand.tmp 26, Go.Operand.tmp 27], argTypes := #[25, 25] }, type := 3, pos := "law.go:79", after := #[{ on := 0, ground := Go.Ground.data }, { on := 1, ground := Go.Ground.data }], guard := none }) rfl (fun K' hK => ?_) AllL.nil
  rw [if_pos (by rfl)]
  go_simp
  go_at_call 13
  refine (qk1.out _ HD4.out).mono ?_
  rintro e5 w5 ⟨rfl, b5⟩
  have S5 := HSB.out _ _ b5 SD4
  have HB5 := Lib.hid (HD4.out.trans (b5.mono HD4.out.size))
  refine hK _ _ S5 ?_
  clear hK K' b5 SD4
  try simp only [Act.put, List.setIfInBounds_toArray, List.set_cons_zero, List.set_cons_succ]
  refine anyL_ready (rs := [5]) (by kernel_rfl) (by simp) ?_
  refine AllL.cons (o := { dst := some 31, op := Go.Op.call { callee := Go.Callee.value (Go.Operand.func 13), args := #[Go.Operand.tmp 29, Go.Operand.tmp 30], argTypes := #[25, 25] }, type := 3, pos := "law.go:79", after := #[{ on := 3, ground := Go.Ground.data }, { on := 4, ground := Go.Ground.data }, { on := 2, ground := Go.Ground.chain }], guard := none }) rfl (fun K' hK => ?_) AllL.nil
  rw [if_pos (by rfl)]
  go_simp
  go_at_call 13
  refine (qk2.out _ HB5.out).mono ?_
  rintro e6 w6 ⟨rfl, b6⟩
  have S6 := HSB.out _ _ b6 S5
  have HB6 := Lib.hid (HB5.out.trans (b6.mono HB5.out.size))
  refine hK _ _ S6 ?_
  clear hK K' b6 S5
  try simp only [Act.put, List.setIfInBounds_toArray, List.set_cons_zero, List.set_cons_succ]
  refine anyL_ready (rs := [8]) (by kernel_rfl) (by simp) ?_
  refine AllL.cons (o := { dst := some 34, op := Go.Op.call { callee := Go.Callee.value (Go.Operand.func 13), args := #[Go.Operand.tmp 32, Go.Operand.tmp 33], argTypes := #[25, 25] }, type := 3, pos := "law.go:79", after := #[{ on := 6, ground := Go.Ground.data }, { on := 7, ground := Go.Ground.data }, { on := 5, ground := Go.Ground.chain }], guard := none }) rfl (fun K' hK => ?_) AllL.nil
  rw [if_pos (by rfl)]
  go_simp
  go_at_call 13
  refine (qk3.out _ HB6.out).mono ?_
  rintro e7 w7 ⟨rfl, b7⟩
  have S7 := HSB.out _ _ b7 S6
  have HB7 := Lib.hid (HB6.out.trans (b7.mono HB6.out.size))
  refine hK _ _ S7 ?_
  clear hK K' b7 S6
  try simp only [Act.put, List.setIfInBounds_toArray, List.set_cons_zero, List.set_cons_succ]
  refine anyL_take (i := 9) (oi := { dst := some 7, op := Go.Op.assign (Go.Operand.tmp 28), type := 3, pos := "law.go:79", after := #[{ on := 2, ground := Go.Ground.data }, { on := 8, ground := Go.Ground.chain }, { on := 0, ground := Go.Ground.phase }, { on := 1, ground := Go.Ground.phase }, { on := 2, ground := Go.Ground.phase }, { on := 3, ground := Go.Ground.textOnly Go.Departure.lateStores }, { on := 4, ground := Go.Ground.textOnly Go.Departure.lateStores }, { on := 5, ground := Go.Ground.textOnly Go.Departure.lateStoresUnsure }, { on := 6, ground := Go.Ground.textOnly Go.Departure.lateStores }, { on := 7, ground := Go.Ground.textOnly Go.Departure.lateStores }, { on := 8, ground := Go.Ground.textOnly Go.Departure.lateStoresUnsure }], guard := none }) (v := ?_) rfl (by decide) (by kernel_rfl) (by kernel_rfl) (by kernel_rfl) (by kernel_rfl) (fun _ _ _ h => h) (Or.inl ⟨by rfl, ?_⟩) S7 ?_
  rotate_left
  · intro wz hSz
    skip
    go_simp
    (try with_reducible rfl)
  try simp only [Act.put, List.setIfInBounds_toArray, List.set_cons_zero, List.set_cons_succ]
  refine anyL_take (i := 10) (oi := { dst := some 8, op := Go.Op.assign (Go.Operand.tmp 31), type := 3, pos := "law.go:79", after := #[{ on := 5, ground := Go.Ground.data }, { on := 9, ground := Go.Ground.chain }, { on := 0, ground := Go.Ground.phase }, { on := 1, ground := Go.Ground.phase }, { on := 2, ground := Go.Ground.phase }, { on := 3, ground := Go.Ground.phase }, { on := 4, ground := Go.Ground.phase }, { on := 5, ground := Go.Ground.phase }, { on := 6, ground := Go.Ground.textOnly Go.Departure.lateStores }, { on := 7, ground := Go.Ground.textOnly Go.Departure.lateStores }, { on := 8, ground := Go.Ground.textOnly Go.Departure.lateStoresUnsure }, { on := 9, ground := Go.Ground.phase }], guard := none }) (v := ?_) rfl (by decide) (by kernel_rfl) (by kernel_rfl) (by kernel_rfl) (by kernel_rfl) (fun _ _ _ h => h) (Or.inl ⟨by rfl, ?_⟩) S7 ?_
  rotate_left
  · intro wz hSz
    skip
    go_simp
    (try with_reducible rfl)
  try simp only [Act.put, List.setIfInBounds_toArray, List.set_cons_zero, List.set_cons_succ]
  refine anyL_take (i := 11) (oi := { dst := some 9, op := Go.Op.assign (Go.Operand.tmp 34), type := 3, pos := "law.go:79", after := #[{ on := 8, ground := Go.Ground.data }, { on := 10, ground := Go.Ground.chain }, { on := 0, ground := Go.Ground.phase }, { on := 1, ground := Go.Ground.phase }, { on := 2, ground := Go.Ground.phase }, { on := 3, ground := Go.Ground.phase }, { on := 4, ground := Go.Ground.phase }, { on := 5, ground := Go.Ground.phase }, { on := 6, ground := Go.Ground.phase }, { on := 7, ground := Go.Ground.phase }, { on := 8, ground := Go.Ground.phase }, { on := 9, ground := Go.Ground.phase }, { on := 10, ground := Go.Ground.phase }], guard := none }) (v := ?_) rfl (by decide) (by kernel_rfl) (by kernel_rfl) (by kernel_rfl) (by kernel_rfl) (fun _ _ _ h => h) (Or.inl ⟨by rfl, ?_⟩) S7 ?_
  rotate_left
  · intro wz hSz
    skip
    go_simp
    (try with_reducible rfl)
  try simp only [Act.put, List.setIfInBounds_toArray, List.set_cons_zero, List.set_cons_succ]
  refine anyL_done (by kernel_rfl) ?_ _
  have HS := Lib.hid S7
  have HB := HB7
  clear S7 HB7
  obtain ⟨⟨f00, f01, f02, f03, f04, f05⟩, ⟨f10, f11, f12, f13, f14, f15⟩, ⟨f20, f21, f22, f23, f24, f25⟩, -⟩ := id HS.out
  go_wp2
  have SD8 : FBox w7.drew w.heap.size f p1 c1 q1 d1 ∧ FBox w7.drew (w.heap.size + 1) g p2 c2 q2 d2 ∧ FBox w7.drew (w.heap.size + 2) h p3 c3 q3 d3 ∧ True := HS.out
  have HD8 := Lib.hid (show Below w.heap.size w w7.drew from HB.out.drew)
  clear HS HB
  clear f00 f01 f02 f03 f04 f05 f10 f11 f12 f13 f14 f15 f20 f21 f22 f23 f24 f25
  refine wp_region_late (S := fun w' => FBox w' w.heap.size f p1 c1 q1 d1 ∧ FBox w' (w.heap.size + 1) g p2 c2 q2 d2 ∧ FBox w' (w.heap.size + 2) h p3 c3 q3 d3 ∧ True) (D := []) (by kernel_rfl) ?_
  refine anyL_take (i := 0) (oi := { dst := some 35, op := Go.Op.fieldAddr 25 (Go.Operand.tmp 3) 0, type := 0, pos := "law.go:80", after := #[], guard := none }) (v := ?_) rfl (by decide) (by kernel_rfl) (by kernel_rfl) (by kernel_rfl) (by kernel_rfl) (fun _ _ _ h => h) (Or.inl ⟨by rfl, ?_⟩) SD8 ?_
  rotate_left
  · intro wz hSz
    skip
    go_simp
    (try with_reducible rfl)
  try simp only [Act.put, List.setIfInBounds_toArray, List.set_cons_zero, List.set_cons_succ]
  refine anyL_take (i := 1) (oi := { dst := some 36, op := Go.Op.load 22 (Go.Operand.tmp 35), type := 22, pos := "law.go:80", after := #[{ on := 0, ground := Go.Ground.data }], guard := none }) (v := ?_) rfl (by decide) (by kernel_rfl) (by kernel_rfl) (by kernel_rfl) (by kernel_rfl) (fun _ _ _ h => h) (Or.inl ⟨by rfl, ?_⟩) SD8 ?_
  rotate_left
  · intro wz hSz
    obtain ⟨⟨z0, z1, z2, z3, z4, z5⟩, ⟨z6, z7, z8, z9, z10, z11⟩, ⟨z12, z13, z14, z15, z16, z17⟩, -⟩ := hSz
    go_simp
    (try with_reducible rfl)
  try simp only [Act.put, List.setIfInBounds_toArray, List.set_cons_zero, List.set_cons_succ]
  refine anyL_take (i := 2) (oi := { dst := some 37, op := Go.Op.fieldAddr 25 (Go.Operand.tmp 4) 0, type := 0, pos := "law.go:80", after := #[], guard := none }) (v := ?_) rfl (by decide) (by kernel_rfl) (by kernel_rfl) (by kernel_rfl) (by kernel_rfl) (fun _ _ _ h => h) (Or.inl ⟨by rfl, ?_⟩) SD8 ?_
  rotate_left
  · intro wz hSz
    skip
    go_simp
    (try with_reducible rfl)
  try simp only [Act.put, List.setIfInBounds_toArray, List.set_cons_zero, List.set_cons_succ]
  refine anyL_take (i := 3) (oi := { dst := some 38, op := Go.Op.load 22 (Go.Operand.tmp 37), type := 22, pos := "law.go:80", after := #[{ on := 2, ground := Go.Ground.data }], guard := none }) (v := ?_) rfl (by decide) (by kernel_rfl) (by kernel_rfl) (by kernel_rfl) (by kernel_rfl) (fun _ _ _ h => h) (Or.inl ⟨by rfl, ?_⟩) SD8 ?_
  rotate_left
  · intro wz hSz
    obtain ⟨⟨z0, z1, z2, z3, z4, z5⟩, ⟨z6, z7, z8, z9, z10, z11⟩, ⟨z12, z13, z14, z15, z16, z17⟩, -⟩ := hSz
    go_simp
    (try with_reducible rfl)
  try simp only [Act.put, List.setIfInBounds_toArray, List.set_cons_zero, List.set_cons_succ]
  refine anyL_take (i := 5) (oi := { dst := some 40, op := Go.Op.fieldAddr 25 (Go.Operand.tmp 4) 0, type := 0, pos := "law.go:80", after := #[], guard := none }) (v := ?_) rfl (by decide) (by kernel_rfl) (by kernel_rfl) (by kernel_rfl) (by kernel_rfl) (fun _ _ _ h => h) (Or.inl ⟨by rfl, ?_⟩) SD8 ?_
  rotate_left
  · intro wz hSz
    skip
    go_simp
    (try with_reducible rfl)
  try simp only [Act.put, List.setIfInBounds_toArray, List.set_cons_zero, List.set_cons_succ]
  refine anyL_take (i := 6) (oi := { dst := some 41, op := Go.Op.load 22 (Go.Operand.tmp 40), type := 22, pos := "law.go:80", after := #[{ on := 5, ground := Go.Ground.data }], guard := none }) (v := ?_) rfl (by decide) (by kernel_rfl) (by kernel_rfl) (by kernel_rfl) (by kernel_rfl) (fun _ _ _ h => h) (Or.inl ⟨by rfl, ?_⟩) SD8 ?_
  rotate_left
  · intro wz hSz
    obtain ⟨⟨z0, z1, z2, z3, z4, z5⟩, ⟨z6, z7, z8, z9, z10, z11⟩, ⟨z12, z13, z14, z15, z16, z17⟩, -⟩ := hSz
    go_simp
    (try with_reducible rfl)
  try simp only [Act.put, List.setIfInBounds_toArray, List.set_cons_zero, List.set_cons_succ]
  refine anyL_take (i := 7) (oi := { dst := some 42, op := Go.Op.fieldAddr 25 (Go.Operand.tmp 5) 0, type := 0, pos := "law.go:80", after := #[], guard := none }) (v := ?_) rfl (by decide) (by kernel_rfl) (by kernel_rfl) (by kernel_rfl) (by kernel_rfl) (fun _ _ _ h => h) (Or.inl ⟨by rfl, ?_⟩) SD8 ?_
  rotate_left
  · intro wz hSz
    skip
    go_simp
    (try with_reducible rfl)
  try simp only [Act.put, List.setIfInBounds_toArray, List.set_cons_zero, List.set_cons_succ]
  refine anyL_take (i := 8) (oi := { dst := some 43, op := Go.Op.load 22 (Go.Operand.tmp 42), type := 22, pos := "law.go:80", after := #[{ on := 7, ground := Go.Ground.data }], guard := none }) (v := ?_) rfl (by decide) (by kernel_rfl) (by kernel_rfl) (by kernel_rfl) (by kernel_rfl) (fun _ _ _ h => h) (Or.inl ⟨by rfl, ?_⟩) SD8 ?_
  rotate_left
  · intro wz hSz
    obtain ⟨⟨z0, z1, z2, z3, z4, z5⟩, ⟨z6, z7, z8, z9, z10, z11⟩, ⟨z12, z13, z14, z15, z16, z17⟩, -⟩ := hSz
    go_simp
    (try with_reducible rfl)
  try simp only [Act.put, List.setIfInBounds_toArray, List.set_cons_zero, List.set_cons_succ]
  refine anyL_take (i := 10) (oi := { dst := some 45, op := Go.Op.fieldAddr 25 (Go.Operand.tmp 3) 0, type := 0, pos := "law.go:80", after := #[], guard := none }) (v := ?_) rfl (by decide) (by kernel_rfl) (by kernel_rfl) (by kernel_rfl) (by kernel_rfl) (fun _ _ _ h => h) (Or.inl ⟨by rfl, ?_⟩) SD8 ?_
  rotate_left
  · intro wz hSz
    skip
    go_simp
    (try with_reducible rfl)
  try simp only [Act.put, List.setIfInBounds_toArray, List.set_cons_zero, List.set_cons_succ]
  refine anyL_take (i := 11) (oi := { dst := some 46, op := Go.Op.load 22 (Go.Operand.tmp 45), type := 22, pos := "law.go:80", after := #[{ on := 10, ground := Go.Ground.data }], guard := none }) (v := ?_) rfl (by decide) (by kernel_rfl) (by kernel_rfl) (by kernel_rfl) (by kernel_rfl) (fun _ _ _ h => h) (Or.inl ⟨by rfl, ?_⟩) SD8 ?_
  rotate_left
  · intro wz hSz
    obtain ⟨⟨z0, z1, z2, z3, z4, z5⟩, ⟨z6, z7, z8, z9, z10, z11⟩, ⟨z12, z13, z14, z15, z16, z17⟩, -⟩ := hSz
    go_simp
    (try with_reducible rfl)
  try simp only [Act.put, List.setIfInBounds_toArray, List.set_cons_zero, List.set_cons_succ]
  refine anyL_take (i := 12) (oi := { dst := some 47, op := Go.Op.fieldAddr 25 (Go.Operand.tmp 5) 0, type := 0, pos := "law.go:80", after := #[], guard := none }) (v := ?_) rfl (by decide) (by kernel_rfl) (by kernel_rfl) (by kernel_rfl) (by kernel_rfl) (fun _ _ _ h => h) (Or.inl ⟨by rfl, ?_⟩) SD8 ?_
  rotate_left
  · intro wz hSz
    skip
    go_simp
    (try with_reducible rfl)
  try simp only [Act.put, List.setIfInBounds_toArray, List.set_cons_zero, List.set_cons_succ]
  refine anyL_take (i := 13) (oi := { dst := some 48, op := Go.Op.load 22 (Go.Operand.tmp 47), type := 22, pos := "law.go:80", after := #[{ on := 12, ground := Go.Ground.data }], guard := none }) (v := ?_) rfl (by decide) (by kernel_rfl) (by kernel_rfl) (by kernel_rfl) (by kernel_rfl) (fun _ _ _ h => h) (Or.inl ⟨by rfl, ?_⟩) SD8 ?_
  rotate_left
  · intro wz hSz
    obtain ⟨⟨z0, z1, z2, z3, z4, z5⟩, ⟨z6, z7, z8, z9, z10, z11⟩, ⟨z12, z13, z14, z15, z16, z17⟩, -⟩ := hSz
    go_simp
    (try with_reducible rfl)
  try simp only [Act.put, List.setIfInBounds_toArray, List.set_cons_zero, List.set_cons_succ]
  refine anyL_ready (rs := [4]) (by kernel_rfl) (by simp) ?_
  refine AllL.cons (o := { dst := some 39, op := Go.Op.call { callee := Go.Callee.value (Go.Operand.func 11), args := #[Go.Operand.tmp 36, Go.Operand.tmp 38], argTypes := #[22, 22] }, type := 3, pos := "law.go:80", after := #[{ on := 1, ground := Go.Ground.data }, { on := 3, ground := Go.Ground.data }], guard := none }) rfl (fun K' hK => ?_) AllL.nil
  rw [if_pos (by rfl)]
  go_simp
  go_at_call 11
  refine (qk1p.out _ HD8.out).mono ?_
  rintro e9 w9 ⟨rfl, b9⟩
  have S9 := HSB.out _ _ b9 SD8
  have HB9 := Lib.hid (HD8.out.trans (b9.mono HD8.out.size))
  refine hK _ _ S9 ?_
  clear hK K' b9 SD8
  try simp only [Act.put, List.setIfInBounds_toArray, List.set_cons_zero, List.set_cons_succ]
  refine anyL_ready (rs := [9]) (by kernel_rfl) (by simp) ?_
  refine AllL.cons (o := { dst := some 44, op := Go.Op.call { callee := Go.Callee.value (Go.Operand.func 11), args := #[Go.Operand.tmp 41, Go.Operand.tmp 43], argTypes := #[22, 22] }, type := 3, pos := "law.go:80", after := #[{ on := 6, ground := Go.Ground.data }, { on := 8, ground := Go.Ground.data }, { on := 4, ground := Go.Ground.chain }], guard := none }) rfl (fun K' hK => ?_) AllL.nil
  rw [if_pos (by rfl)]
  go_simp
  go_at_call 11
  refine (qk2p.out _ HB9.out).mono ?_
  rintro e10 w10 ⟨rfl, b10⟩
  have S10 := HSB.out _ _ b10 S9
  have HB10 := Lib.hid (HB9.out.trans (b10.mono HB9.out.size))
  refine hK _ _ S10 ?_
  clear hK K' b10 S9
  try simp only [Act.put, List.setIfInBounds_toArray, List.set_cons_zero, List.set_cons_succ]
  refine anyL_ready (rs := [14]) (by kernel_rfl) (by simp) ?_
  refine AllL.cons (o := { dst := some 49, op := Go.Op.call { callee := Go.Callee.value (Go.Operand.func 11), args := #[Go.Operand.tmp 46, Go.Operand.tmp 48], argTypes := #[22, 22] }, type := 3, pos := "law.go:80", after := #[{ on := 11, ground := Go.Ground.data }, { on := 13, ground := Go.Ground.data }, { on := 9, ground := Go.Ground.chain }], guard := none }) rfl (fun K' hK => ?_) AllL.nil
  rw [if_pos (by rfl)]
  go_simp
  go_at_call 11
  refine (qk3p.out _ HB10.out).mono ?_
  rintro e11 w11 ⟨rfl, b11⟩
  have S11 := HSB.out _ _ b11 S10
  have HB11 := Lib.hid (HB10.out.trans (b11.mono HB10.out.size))
  refine hK _ _ S11 ?_
  clear hK K' b11 S10
  try simp only [Act.put, List.setIfInBounds_toArray, List.set_cons_zero, List.set_cons_succ]
  refine anyL_take (i := 15) (oi := { dst := some 10, op := Go.Op.assign (Go.Operand.tmp 39), type := 3, pos := "law.go:80", after := #[{ on := 4, ground := Go.Ground.data }, { on := 14, ground := Go.Ground.chain }, { on := 0, ground := Go.Ground.phase }, { on := 1, ground := Go.Ground.phase }, { on := 2, ground := Go.Ground.phase }, { on := 3, ground := Go.Ground.phase }, { on := 4, ground := Go.Ground.phase }, { on := 5, ground := Go.Ground.textOnly Go.Departure.lateStores }, { on := 6, ground := Go.Ground.textOnly Go.Departure.lateStores }, { on := 7, ground := Go.Ground.textOnly Go.Departure.lateStores }, { on := 8, ground := Go.Ground.textOnly Go.Departure.lateStores }, { on := 9, ground := Go.Ground.textOnly Go.Departure.lateStoresUnsure }, { on := 10, ground := Go.Ground.textOnly Go.Departure.lateStores }, { on := 11, ground := Go.Ground.textOnly Go.Departure.lateStores }, { on := 12, ground := Go.Ground.textOnly Go.Departure.lateStores }, { on := 13, ground := Go.Ground.textOnly Go.Departure.lateStores }, { on := 14, ground := Go.Ground.textOnly Go.Departure.lateStoresUnsure }], guard := none }) (v := ?_) rfl (by decide) (by kernel_rfl) (by kernel_rfl) (by kernel_rfl) (by kernel_rfl) (fun _ _ _ h => h) (Or.inl ⟨by rfl, ?_⟩) S11 ?_
  rotate_left
  · intro wz hSz
    skip
    go_simp
    (try with_reducible rfl)
  try simp only [Act.put, List.setIfInBounds_toArray, List.set_cons_zero, List.set_cons_succ]
  refine anyL_take (i := 16) (oi := { dst := some 11, op := Go.Op.assign (Go.Operand.tmp 44), type := 3, pos := "law.go:80", after := #[{ on := 9, ground := Go.Ground.data }, { on := 15, ground := Go.Ground.chain }, { on := 0, ground := Go.Ground.phase }, { on := 1, ground := Go.Ground.phase }, { on := 2, ground := Go.Ground.phase }, { on := 3, ground := Go.Ground.phase }, { on := 4, ground := Go.Ground.phase }, { on := 5, ground := Go.Ground.phase }, { on := 6, ground := Go.Ground.phase }, { on := 7, ground := Go.Ground.phase }, { on := 8, ground := Go.Ground.phase }, { on := 9, ground := Go.Ground.phase }, { on := 10, ground := Go.Ground.textOnly Go.Departure.lateStores }, { on := 11, ground := Go.Ground.textOnly Go.Departure.lateStores }, { on := 12, ground := Go.Ground.textOnly Go.Departure.lateStores }, { on := 13, ground := Go.Ground.textOnly Go.Departure.lateStores }, { on := 14, ground := Go.Ground.textOnly Go.Departure.lateStoresUnsure }, { on := 15, ground := Go.Ground.phase }], guard := none }) (v := ?_) rfl (by decide) (by kernel_rfl) (by kernel_rfl) (by kernel_rfl) (by kernel_rfl) (fun _ _ _ h => h) (Or.inl ⟨by rfl, ?_⟩) S11 ?_
  rotate_left
  · intro wz hSz
    skip
    go_simp
    (try with_reducible rfl)
  try simp only [Act.put, List.setIfInBounds_toArray, List.set_cons_zero, List.set_cons_succ]
  refine anyL_take (i := 17) (oi := { dst := some 12, op := Go.Op.assign (Go.Operand.tmp 49), type := 3, pos := "law.go:80", after := #[{ on := 14, ground := Go.Ground.data }, { on := 16, ground := Go.Ground.chain }, { on := 0, ground := Go.Ground.phase }, { on := 1, ground := Go.Ground.phase }, { on := 2, ground := Go.Ground.phase }, { on := 3, ground := Go.Ground.phase }, { on := 4, ground := Go.Ground.phase }, { on := 5, ground := Go.Ground.phase }, { on := 6, ground := Go.Ground.phase }, { on := 7, ground := Go.Ground.phase }, { on := 8, ground := Go.Ground.phase }, { on := 9, ground := Go.Ground.phase }, { on := 10, ground := Go.Ground.phase }, { on := 11, ground := Go.Ground.phase }, { on := 12, ground := Go.Ground.phase }, { on := 13, ground := Go.Ground.phase }, { on := 14, ground := Go.Ground.phase }, { on := 15, ground := Go.Ground.phase }, { on := 16, ground := Go.Ground.phase }], guard := none }) (v := ?_) rfl (by decide) (by kernel_rfl) (by kernel_rfl) (by kernel_rfl) (by kernel_rfl) (fun _ _ _ h => h) (Or.inl ⟨by rfl, ?_⟩) S11 ?_
  rotate_left
  · intro wz hSz
    skip
    go_simp
    (try with_reducible rfl)
  try simp only [Act.put, List.setIfInBounds_toArray, List.set_cons_zero, List.set_cons_succ]
  refine anyL_done (by kernel_rfl) ?_ _
  have HS := Lib.hid S11
  have HB := HB11
  clear S11 HB11
  clear qk1 qk2 qk3 qk1p qk2p qk3p
  go_upto_region 5 with fail
  go_cut [95] (fun z wx => z = .bool false ∧ (FBox wx w.heap.size f p1 c1 q1 d1 ∧ FBox wx (w.heap.size + 1) g p2 c2 q2 d2 ∧ FBox wx (w.heap.size + 2) h p3 c3 q3 d3 ∧ True) ∧ Below w.heap.size w wx)
  case first =>
    have nX := qnX.out
    have nP := qnP.out
    by_cases hu : X ≤ 0
    case neg =>
      by_cases hu2 : P ≤ 0
      case neg =>
        obtain ⟨⟨f00, f01, f02, f03, f04, f05⟩, ⟨f10, f11, f12, f13, f14, f15⟩, ⟨f20, f21, f22, f23, f24, f25⟩, -⟩ := id HS.out
        go_wp2_with fail
        refine (qk4.out _ HB.out).mono ?_
        rintro e12 w12 ⟨rfl, b12⟩
        replace HS := Lib.hid (HSB.out _ _ b12 HS.out)
        replace HB := Lib.hid (HB.out.trans (b12.mono HB.out.size))
        clear b12
        clear f00 f01 f02 f03 f04 f05 f10 f11 f12 f13 f14 f15 f20 f21 f22 f23 f24 f25
        obtain ⟨⟨f00, f01, f02, f03, f04, f05⟩, ⟨f10, f11, f12, f13, f14, f15⟩, ⟨f20, f21, f22, f23, f24, f25⟩, -⟩ := id HS.out
        go_wp2_with fail
        refine (qk4p.out _ HB.out).mono ?_
        rintro e13 w13 ⟨rfl, b13⟩
        replace HS := Lib.hid (HSB.out _ _ b13 HS.out)
        replace HB := Lib.hid (HB.out.trans (b13.mono HB.out.size))
        clear b13
        clear f00 f01 f02 f03 f04 f05 f10 f11 f12 f13 f14 f15 f20 f21 f22 f23 f24 f25
        go_wp2
        go_meet
        exact ⟨by first | rfl | simp, HS.out, HB.out⟩
      by_cases hv2 : Q ≤ 0
      case neg =>
        obtain ⟨⟨f00, f01, f02, f03, f04, f05⟩, ⟨f10, f11, f12, f13, f14, f15⟩, ⟨f20, f21, f22, f23, f24, f25⟩, -⟩ := id HS.out
        go_wp2_with fail
        refine (qk4.out _ HB.out).mono ?_
        rintro e12 w12 ⟨rfl, b12⟩
        replace HS := Lib.hid (HSB.out _ _ b12 HS.out)
        replace HB := Lib.hid (HB.out.trans (b12.mono HB.out.size))
        clear b12
        clear f00 f01 f02 f03 f04 f05 f10 f11 f12 f13 f14 f15 f20 f21 f22 f23 f24 f25
        obtain ⟨⟨f00, f01, f02, f03, f04, f05⟩, ⟨f10, f11, f12, f13, f14, f15⟩, ⟨f20, f21, f22, f23, f24, f25⟩, -⟩ := id HS.out
        go_wp2_with fail
        refine (qk4p.out _ HB.out).mono ?_
        rintro e13 w13 ⟨rfl, b13⟩
        replace HS := Lib.hid (HSB.out _ _ b13 HS.out)
        replace HB := Lib.hid (HB.out.trans (b13.mono HB.out.size))
        clear b13
        clear f00 f01 f02 f03 f04 f05 f10 f11 f12 f13 f14 f15 f20 f21 f22 f23 f24 f25
        go_wp2
        go_meet
        exact ⟨by first | rfl | simp, HS.out, HB.out⟩
      have hz2 : Z2 = min P Q := qmP.out ⟨hu2, hv2⟩
      have hz2b : (Z2 == min P Q) = true := beq_iff_eq.2 hz2
      have hz2n : (Z2 != min P Q) = false := by rw [bne, hz2b]; rfl
      clear hz2
      obtain ⟨⟨f00, f01, f02, f03, f04, f05⟩, ⟨f10, f11, f12, f13, f14, f15⟩, ⟨f20, f21, f22, f23, f24, f25⟩, -⟩ := id HS.out
      go_wp2_with fail
      refine (qk4.out _ HB.out).mono ?_
      rintro e12 w12 ⟨rfl, b12⟩
      replace HS := Lib.hid (HSB.out _ _ b12 HS.out)
      replace HB := Lib.hid (HB.out.trans (b12.mono HB.out.size))
      clear b12
      clear f00 f01 f02 f03 f04 f05 f10 f11 f12 f13 f14 f15 f20 f21 f22 f23 f24 f25
      obtain ⟨⟨f00, f01, f02, f03, f04, f05⟩, ⟨f10, f11, f12, f13, f14, f15⟩, ⟨f20, f21, f22, f23, f24, f25⟩, -⟩ := id HS.out
      go_wp2_with fail
      refine (qk4p.out _ HB.out).mono ?_
      rintro e13 w13 ⟨rfl, b13⟩
      replace HS := Lib.hid (HSB.out _ _ b13 HS.out)
      replace HB := Lib.hid (HB.out.trans (b13.mono HB.out.size))
      clear b13
      clear f00 f01 f02 f03 f04 f05 f10 f11 f12 f13 f14 f15 f20 f21 f22 f23 f24 f25
      go_wp2
      go_meet
      exact ⟨by first | rfl | simp, HS.out, HB.out⟩
    by_cases hv : Y ≤ 0
    case neg =>
      by_cases hu2 : P ≤ 0
      case neg =>
        obtain ⟨⟨f00, f01, f02, f03, f04, f05⟩, ⟨f10, f11, f12, f13, f14, f15⟩, ⟨f20, f21, f22, f23, f24, f25⟩, -⟩ := id HS.out
        go_wp2_with fail
        refine (qk4.out _ HB.out).mono ?_
        rintro e12 w12 ⟨rfl, b12⟩
        replace HS := Lib.hid (HSB.out _ _ b12 HS.out)
        replace HB := Lib.hid (HB.out.trans (b12.mono HB.out.size))
        clear b12
        clear f00 f01 f02 f03 f04 f05 f10 f11 f12 f13 f14 f15 f20 f21 f22 f23 f24 f25
        obtain ⟨⟨f00, f01, f02, f03, f04, f05⟩, ⟨f10, f11, f12, f13, f14, f15⟩, ⟨f20, f21, f22, f23, f24, f25⟩, -⟩ := id HS.out
        go_wp2_with fail
        refine (qk4p.out _ HB.out).mono ?_
        rintro e13 w13 ⟨rfl, b13⟩
        replace HS := Lib.hid (HSB.out _ _ b13 HS.out)
        replace HB := Lib.hid (HB.out.trans (b13.mono HB.out.size))
        clear b13
        clear f00 f01 f02 f03 f04 f05 f10 f11 f12 f13 f14 f15 f20 f21 f22 f23 f24 f25
        go_wp2
        go_meet
        exact ⟨by first | rfl | simp, HS.out, HB.out⟩
      by_cases hv2 : Q ≤ 0
      case neg =>
        obtain ⟨⟨f00, f01, f02, f03, f04, f05⟩, ⟨f10, f11, f12, f13, f14, f15⟩, ⟨f20, f21, f22, f23, f24, f25⟩, -⟩ := id HS.out
        go_wp2_with fail
        refine (qk4.out _ HB.out).mono ?_
        rintro e12 w12 ⟨rfl, b12⟩
        replace HS := Lib.hid (HSB.out _ _ b12 HS.out)
        replace HB := Lib.hid (HB.out.trans (b12.mono HB.out.size))
        clear b12
        clear f00 f01 f02 f03 f04 f05 f10 f11 f12 f13 f14 f15 f20 f21 f22 f23 f24 f25
        obtain ⟨⟨f00, f01, f02, f03, f04, f05⟩, ⟨f10, f11, f12, f13, f14, f15⟩, ⟨f20, f21, f22, f23, f24, f25⟩, -⟩ := id HS.out
        go_wp2_with fail
        refine (qk4p.out _ HB.out).mono ?_
        rintro e13 w13 ⟨rfl, b13⟩
        replace HS := Lib.hid (HSB.out _ _ b13 HS.out)
        replace HB := Lib.hid (HB.out.trans (b13.mono HB.out.size))
        clear b13
        clear f00 f01 f02 f03 f04 f05 f10 f11 f12 f13 f14 f15 f20 f21 f22 f23 f24 f25
        go_wp2
        go_meet
        exact ⟨by first | rfl | simp, HS.out, HB.out⟩
      have hz2 : Z2 = min P Q := qmP.out ⟨hu2, hv2⟩
      have hz2b : (Z2 == min P Q) = true := beq_iff_eq.2 hz2
      have hz2n : (Z2 != min P Q) = false := by rw [bne, hz2b]; rfl
      clear hz2
      obtain ⟨⟨f00, f01, f02, f03, f04, f05⟩, ⟨f10, f11, f12, f13, f14, f15⟩, ⟨f20, f21, f22, f23, f24, f25⟩, -⟩ := id HS.out
      go_wp2_with fail
      refine (qk4.out _ HB.out).mono ?_
      rintro e12 w12 ⟨rfl, b12⟩
      replace HS := Lib.hid (HSB.out _ _ b12 HS.out)
      replace HB := Lib.hid (HB.out.trans (b12.mono HB.out.size))
      clear b12
      clear f00 f01 f02 f03 f04 f05 f10 f11 f12 f13 f14 f15 f20 f21 f22 f23 f24 f25
      obtain ⟨⟨f00, f01, f02, f03, f04, f05⟩, ⟨f10, f11, f12, f13, f14, f15⟩, ⟨f20, f21, f22, f23, f24, f25⟩, -⟩ := id HS.out
      go_wp2_with fail
      refine (qk4p.out _ HB.out).mono ?_
      rintro e13 w13 ⟨rfl, b13⟩
      replace HS := Lib.hid (HSB.out _ _ b13 HS.out)
      replace HB := Lib.hid (HB.out.trans (b13.mono HB.out.size))
      clear b13
      clear f00 f01 f02 f03 f04 f05 f10 f11 f12 f13 f14 f15 f20 f21 f22 f23 f24 f25
      go_wp2
      go_meet
      exact ⟨by first | rfl | simp, HS.out, HB.out⟩
    have hz : Z = min X Y := qmX.out ⟨hu, hv⟩
    have hzb : (Z == min X Y) = true := beq_iff_eq.2 hz
    have hzn : (Z != min X Y) = false := by rw [bne, hzb]; rfl
    clear hz
    by_cases hu2 : P ≤ 0
    case neg =>
      obtain ⟨⟨f00, f01, f02, f03, f04, f05⟩, ⟨f10, f11, f12, f13, f14, f15⟩, ⟨f20, f21, f22, f23, f24, f25⟩, -⟩ := id HS.out
      go_wp2_with fail
      refine (qk4.out _ HB.out).mono ?_
      rintro e12 w12 ⟨rfl, b12⟩
      replace HS := Lib.hid (HSB.out _ _ b12 HS.out)
      replace HB := Lib.hid (HB.out.trans (b12.mono HB.out.size))
      clear b12
      clear f00 f01 f02 f03 f04 f05 f10 f11 f12 f13 f14 f15 f20 f21 f22 f23 f24 f25
      obtain ⟨⟨f00, f01, f02, f03, f04, f05⟩, ⟨f10, f11, f12, f13, f14, f15⟩, ⟨f20, f21, f22, f23, f24, f25⟩, -⟩ := id HS.out
      go_wp2_with fail
      refine (qk4p.out _ HB.out).mono ?_
      rintro e13 w13 ⟨rfl, b13⟩
      replace HS := Lib.hid (HSB.out _ _ b13 HS.out)
      replace HB := Lib.hid (HB.out.trans (b13.mono HB.out.size))
      clear b13
      clear f00 f01 f02 f03 f04 f05 f10 f11 f12 f13 f14 f15 f20 f21 f22 f23 f24 f25
      go_wp2
      go_meet
      exact ⟨by first | rfl | simp, HS.out, HB.out⟩
    by_cases hv2 : Q ≤ 0
    case neg =>
      obtain ⟨⟨f00, f01, f02, f03, f04, f05⟩, ⟨f10, f11, f12, f13, f14, f15⟩, ⟨f20, f21, f22, f23, f24, f25⟩, -⟩ := id HS.out
      go_wp2_with fail
      refine (qk4.out _ HB.out).mono ?_
      rintro e12 w12 ⟨rfl, b12⟩
      replace HS := Lib.hid (HSB.out _ _ b12 HS.out)
      replace HB := Lib.hid (HB.out.trans (b12.mono HB.out.size))
      clear b12
      clear f00 f01 f02 f03 f04 f05 f10 f11 f12 f13 f14 f15 f20 f21 f22 f23 f24 f25
      obtain ⟨⟨f00, f01, f02, f03, f04, f05⟩, ⟨f10, f11, f12, f13, f14, f15⟩, ⟨f20, f21, f22, f23, f24, f25⟩, -⟩ := id HS.out
      go_wp2_with fail
      refine (qk4p.out _ HB.out).mono ?_
      rintro e13 w13 ⟨rfl, b13⟩
      replace HS := Lib.hid (HSB.out _ _ b13 HS.out)
      replace HB := Lib.hid (HB.out.trans (b13.mono HB.out.size))
      clear b13
      clear f00 f01 f02 f03 f04 f05 f10 f11 f12 f13 f14 f15 f20 f21 f22 f23 f24 f25
      go_wp2
      go_meet
      exact ⟨by first | rfl | simp, HS.out, HB.out⟩
    have hz2 : Z2 = min P Q := qmP.out ⟨hu2, hv2⟩
    have hz2b : (Z2 == min P Q) = true := beq_iff_eq.2 hz2
    have hz2n : (Z2 != min P Q) = false := by rw [bne, hz2b]; rfl
    clear hz2
    obtain ⟨⟨f00, f01, f02, f03, f04, f05⟩, ⟨f10, f11, f12, f13, f14, f15⟩, ⟨f20, f21, f22, f23, f24, f25⟩, -⟩ := id HS.out
    go_wp2_with fail
    refine (qk4.out _ HB.out).mono ?_
    rintro e12 w12 ⟨rfl, b12⟩
    replace HS := Lib.hid (HSB.out _ _ b12 HS.out)
    replace HB := Lib.hid (HB.out.trans (b12.mono HB.out.size))
    clear b12
    clear f00 f01 f02 f03 f04 f05 f10 f11 f12 f13 f14 f15 f20 f21 f22 f23 f24 f25
    obtain ⟨⟨f00, f01, f02, f03, f04, f05⟩, ⟨f10, f11, f12, f13, f14, f15⟩, ⟨f20, f21, f22, f23, f24, f25⟩, -⟩ := id HS.out
    go_wp2_with fail
    refine (qk4p.out _ HB.out).mono ?_
    rintro e13 w13 ⟨rfl, b13⟩
    replace HS := Lib.hid (HSB.out _ _ b13 HS.out)
    replace HB := Lib.hid (HB.out.trans (b13.mono HB.out.size))
    clear b13
    clear f00 f01 f02 f03 f04 f05 f10 f11 f12 f13 f14 f15 f20 f21 f22 f23 f24 f25
    go_wp2
    go_meet
    exact ⟨by first | rfl | simp, HS.out, HB.out⟩
  case rest =>
    obtain ⟨rfl, hS2, hB2⟩ := hcut
    have HS := Lib.hid hS2
    have HB := Lib.hid hB2
    clear hS2 hB2 qk4 qk4p qmX qmP qnX qnP
    obtain ⟨⟨f00, f01, f02, f03, f04, f05⟩, ⟨f10, f11, f12, f13, f14, f15⟩, ⟨f20, f21, f22, f23, f24, f25⟩, -⟩ := id HS.out
    go_upto_region 7 with fail
    have SD : FBox wc.drew w.heap.size f p1 c1 q1 d1 ∧ FBox wc.drew (w.heap.size + 1) g p2 c2 q2 d2 ∧ FBox wc.drew (w.heap.size + 2) h p3 c3 q3 d3 ∧ True := HS.out
    replace HB := Lib.hid (show Below w.heap.size w wc.drew from HB.out.drew)
    clear HS f00 f01 f02 f03 f04 f05 f10 f11 f12 f13 f14 f15 f20 f21 f22 f23 f24 f25
    go_wp2
    refine wp_region_late (S := fun w' => FBox w' w.heap.size f p1 c1 q1 d1 ∧ FBox w' (w.heap.size + 1) g p2 c2 q2 d2 ∧ FBox w' (w.heap.size + 2) h p3 c3 q3 d3 ∧ True) (D := []) (by kernel_rfl) ?_
    generalize wc.drew = Wd at *
    refine anyL_take (i := 0) (oi := { dst := some 96, op := Go.Op.fieldAddr 25 (Go.Operand.tmp 3) 1, type := 0, pos := "law.go:84", after := #[], guard := none }) (v := ?_) rfl (by decide) (by kernel_rfl) (by kernel_rfl) (by kernel_rfl) (by kernel_rfl) (fun _ _ _ h => h) (Or.inl ⟨by rfl, ?_⟩) SD ?_
    rotate_left
    · intro wz hSz
      skip
      go_simp
      (try with_reducible rfl)
    try simp only [Act.put, List.setIfInBounds_toArray, List.set_cons_zero, List.set_cons_succ]
    refine anyL_take (i := 1) (oi := { dst := some 97, op := Go.Op.load 9 (Go.Operand.tmp 96), type := 9, pos := "law.go:84", after := #[{ on := 0, ground := Go.Ground.data }], guard := none }) (v := ?_) rfl (by decide) (by kernel_rfl) (by kernel_rfl) (by kernel_rfl) (by kernel_rfl) (fun _ _ _ h => h) (Or.inl ⟨by rfl, ?_⟩) SD ?_
    rotate_left
    · intro wz hSz
      obtain ⟨⟨z0, z1, z2, z3, z4, z5⟩, ⟨z6, z7, z8, z9, z10, z11⟩, ⟨z12, z13, z14, z15, z16, z17⟩, -⟩ := hSz
      go_simp
      (try with_reducible rfl)
    try simp only [Act.put, List.setIfInBounds_toArray, List.set_cons_zero, List.set_cons_succ]
    refine anyL_take (i := 2) (oi := { dst := some 98, op := Go.Op.fieldAddr 25 (Go.Operand.tmp 3) 4, type := 0, pos := "law.go:84", after := #[], guard := none }) (v := ?_) rfl (by decide) (by kernel_rfl) (by kernel_rfl) (by kernel_rfl) (by kernel_rfl) (fun _ _ _ h => h) (Or.inl ⟨by rfl, ?_⟩) SD ?_
    rotate_left
    · intro wz hSz
      skip
      go_simp
      (try with_reducible rfl)
    try simp only [Act.put, List.setIfInBounds_toArray, List.set_cons_zero, List.set_cons_succ]
    refine anyL_take (i := 3) (oi := { dst := some 99, op := Go.Op.load 2 (Go.Operand.tmp 98), type := 2, pos := "law.go:84", after := #[{ on := 2, ground := Go.Ground.data }], guard := none }) (v := ?_) rfl (by decide) (by kernel_rfl) (by kernel_rfl) (by kernel_rfl) (by kernel_rfl) (fun _ _ _ h => h) (Or.inl ⟨by rfl, ?_⟩) SD ?_
    rotate_left
    · intro wz hSz
      obtain ⟨⟨z0, z1, z2, z3, z4, z5⟩, ⟨z6, z7, z8, z9, z10, z11⟩, ⟨z12, z13, z14, z15, z16, z17⟩, -⟩ := hSz
      go_simp
      (try with_reducible rfl)
    try simp only [Act.put, List.setIfInBounds_toArray, List.set_cons_zero, List.set_cons_succ]
    refine anyL_take (i := 4) (oi := { dst := some 100, op := Go.Op.build 29 #[(0, Go.Operand.tmp 97), (4, Go.Operand.tmp 99)], type := 29, pos := "law.go:84", after := #[{ on := 1, ground := Go.Ground.data }, { on := 3, ground := Go.Ground.data }], guard := none }) (v := ?_) rfl (by decide) (by kernel_rfl) (by kernel_rfl) (by kernel_rfl) (by kernel_rfl) (fun _ _ _ h => h) (Or.inl ⟨by rfl, ?_⟩) SD ?_
    rotate_left
    · intro wz hSz
      skip
      go_simp
      (try with_reducible rfl)
    try simp only [Act.put, List.setIfInBounds_toArray, List.set_cons_zero, List.set_cons_succ]
    refine anyL_take (i := 5) (oi := { dst := some 101, op := Go.Op.fieldAddr 25 (Go.Operand.tmp 4) 1, type := 0, pos := "law.go:84", after := #[{ on := 12, ground := Go.Ground.gcOnly Go.Departure.lateStores }], guard := none }) (v := ?_) rfl (by decide) (by kernel_rfl) (by kernel_rfl) (by kernel_rfl) (by kernel_rfl) (fun _ _ _ h => h) (Or.inl ⟨by rfl, ?_⟩) SD ?_
    rotate_left
    · intro wz hSz
      skip
      go_simp
      (try with_reducible rfl)
    try simp only [Act.put, List.setIfInBounds_toArray, List.set_cons_zero, List.set_cons_succ]
    refine anyL_take (i := 6) (oi := { dst := some 102, op := Go.Op.load 9 (Go.Operand.tmp 101), type := 9, pos := "law.go:84", after := #[{ on := 5, ground := Go.Ground.data }, { on := 12, ground := Go.Ground.gcOnly Go.Departure.lateStores }], guard := none }) (v := ?_) rfl (by decide) (by kernel_rfl) (by kernel_rfl) (by kernel_rfl) (by kernel_rfl) (fun _ _ _ h => h) (Or.inl ⟨by rfl, ?_⟩) SD ?_
    rotate_left
    · intro wz hSz
      obtain ⟨⟨z0, z1, z2, z3, z4, z5⟩, ⟨z6, z7, z8, z9, z10, z11⟩, ⟨z12, z13, z14, z15, z16, z17⟩, -⟩ := hSz
      go_simp
      (try with_reducible rfl)
    try simp only [Act.put, List.setIfInBounds_toArray, List.set_cons_zero, List.set_cons_succ]
    refine anyL_take (i := 7) (oi := { dst := some 103, op := Go.Op.fieldAddr 25 (Go.Operand.tmp 4) 4, type := 0, pos := "law.go:84", after := #[{ on := 12, ground := Go.Ground.gcOnly Go.Departure.lateStores }], guard := none }) (v := ?_) rfl (by decide) (by kernel_rfl) (by kernel_rfl) (by kernel_rfl) (by kernel_rfl) (fun _ _ _ h => h) (Or.inl ⟨by rfl, ?_⟩) SD ?_
    rotate_left
    · intro wz hSz
      skip
      go_simp
      (try with_reducible rfl)
    try simp only [Act.put, List.setIfInBounds_toArray, List.set_cons_zero, List.set_cons_succ]
    refine anyL_take (i := 8) (oi := { dst := some 104, op := Go.Op.load 2 (Go.Operand.tmp 103), type := 2, pos := "law.go:84", after := #[{ on := 7, ground := Go.Ground.data }, { on := 12, ground := Go.Ground.gcOnly Go.Departure.lateStores }], guard := none }) (v := ?_) rfl (by decide) (by kernel_rfl) (by kernel_rfl) (by kernel_rfl) (by kernel_rfl) (fun _ _ _ h => h) (Or.inl ⟨by rfl, ?_⟩) SD ?_
    rotate_left
    · intro wz hSz
      obtain ⟨⟨z0, z1, z2, z3, z4, z5⟩, ⟨z6, z7, z8, z9, z10, z11⟩, ⟨z12, z13, z14, z15, z16, z17⟩, -⟩ := hSz
      go_simp
      (try with_reducible rfl)
    try simp only [Act.put, List.setIfInBounds_toArray, List.set_cons_zero, List.set_cons_succ]
    refine anyL_take (i := 9) (oi := { dst := some 105, op := Go.Op.build 29 #[(0, Go.Operand.tmp 102), (4, Go.Operand.tmp 104)], type := 29, pos := "law.go:84", after := #[{ on := 6, ground := Go.Ground.data }, { on := 8, ground := Go.Ground.data }, { on := 12, ground := Go.Ground.gcOnly Go.Departure.lateStores }], guard := none }) (v := ?_) rfl (by decide) (by kernel_rfl) (by kernel_rfl) (by kernel_rfl) (by kernel_rfl) (fun _ _ _ h => h) (Or.inl ⟨by rfl, ?_⟩) SD ?_
    rotate_left
    · intro wz hSz
      skip
      go_simp
      (try with_reducible rfl)
    try simp only [Act.put, List.setIfInBounds_toArray, List.set_cons_zero, List.set_cons_succ]
    have hSA := HSB.out _ _ ((Below.refl _ Wd).alloc (Nat.le_refl _) (.cells #[.string ⟨#[]⟩, .string ⟨#[]⟩, .string ⟨#[]⟩, .string ⟨#[]⟩, .int .i64 0] 29)) SD
    refine anyL_ready (rs := [10, 11]) (by kernel_rfl) (by simp) ?_
    refine AllL.cons (o := { dst := some 13, op := Go.Op.alloc 29, type := 0, pos := "law.go:84", after := #[], guard := none }) rfl (fun K' hK => ?_) (AllL.cons (o := { dst := some 14, op := Go.Op.alloc 29, type := 0, pos := "law.go:84", after := #[], guard := none }) rfl (fun K' hK => ?_) AllL.nil)
    · rw [if_pos (by rfl)]
      go_simp
      refine hK _ _ hSA ?_
      clear hK K'
      try simp only [Act.put, List.setIfInBounds_toArray, List.set_cons_zero, List.set_cons_succ]
      refine anyL_ready (rs := [11]) (by kernel_rfl) (by simp) ?_
      refine AllL.cons (o := { dst := some 14, op := Go.Op.alloc 29, type := 0, pos := "law.go:84", after := #[], guard := none }) rfl (fun K' hK => ?_) AllL.nil
      rw [if_pos (by rfl)]
      go_simp
      obtain ⟨Wb, hWb⟩ : ∃ Wb, Wb = (Wd.alloc (.cells #[.string ⟨#[]⟩, .string ⟨#[]⟩, .string ⟨#[]⟩, .string ⟨#[]⟩, .int .i64 0] 29)).alloc (.cells #[.string ⟨#[]⟩, .string ⟨#[]⟩, .string ⟨#[]⟩, .string ⟨#[]⟩, .int .i64 0] 29) := ⟨_, rfl⟩
      have bAB : Below Wd.heap.size Wd Wb := by rw [hWb]; exact ((Below.refl _ _).alloc (Nat.le_refl _) _).alloc (by simp) _
      have hM0 : MBlk Wb Wd.heap.size #[.string ⟨#[]⟩, .string ⟨#[]⟩, .string ⟨#[]⟩, .string ⟨#[]⟩, .int .i64 0] 29 := by
        rw [hWb]
        exact (heap_alloc_old _ _ (by simp)).trans (heap_alloc_new Wd _)
      have hM1 : MBlk Wb (Wd.heap.size + 1) #[.string ⟨#[]⟩, .string ⟨#[]⟩, .string ⟨#[]⟩, .string ⟨#[]⟩, .int .i64 0] 29 := by
        have hnn := heap_alloc_new (Wd.alloc (.cells #[.string ⟨#[]⟩, .string ⟨#[]⟩, .string ⟨#[]⟩, .string ⟨#[]⟩, .int .i64 0] 29)) (.cells #[.string ⟨#[]⟩, .string ⟨#[]⟩, .string ⟨#[]⟩, .string ⟨#[]⟩, .int .i64 0] 29)
        rw [World.size_alloc] at hnn
        rw [hWb]
        exact hnn
      have hSb := HSB.out _ _ bAB SD
      refine hK _ _ (by rw [hWb] at hSb; exact hSb) ?_
      simp only [← hWb]
      clear hK K' hWb hSA
      try simp only [Act.put, List.setIfInBounds_toArray, List.set_cons_zero, List.set_cons_succ]
      obtain ⟨nx, hnx⟩ : ∃ n, n = Wd.heap.size := ⟨_, rfl⟩
      obtain ⟨ny, hny⟩ : ∃ n, n = (Wd.heap.size + 1) := ⟨_, rfl⟩
      have hMx : MBlk Wb nx #[.string ⟨#[]⟩, .string ⟨#[]⟩, .string ⟨#[]⟩, .string ⟨#[]⟩, .int .i64 0] 29 := by rw [hnx]; exact hM0
      have hMy : MBlk Wb ny #[.string ⟨#[]⟩, .string ⟨#[]⟩, .string ⟨#[]⟩, .string ⟨#[]⟩, .int .i64 0] 29 := by rw [hny]; exact hM1
      have hxy : nx ≠ ny := by omega
      have hyx : ny ≠ nx := fun e => hxy e.symm
      have hx0 : Wd.heap.size ≤ nx := by omega
      have hy0 : Wd.heap.size ≤ ny := by omega
      simp only [← hny]
      simp only [← hnx]
      clear hM0 hM1 hnx hny
      obtain ⟨V1, hV1⟩ : ∃ V1, V1 = (((((Wb.setCell ⟨nx, 0, none⟩ (.string f.id)).setCell ⟨nx, 1, none⟩ (.string ⟨#[]⟩)).setCell ⟨nx, 2, none⟩ (.string ⟨#[]⟩)).setCell ⟨nx, 3, none⟩ (.string ⟨#[]⟩)).setCell ⟨nx, 4, none⟩ (.int .i64 f.upd)) := ⟨_, rfl⟩
      have hX1 : MBlk V1 nx #[.string f.id, .string ⟨#[]⟩, .string ⟨#[]⟩, .string ⟨#[]⟩, .int .i64 f.upd] 29 := by rw [hV1]; exact eblk_set5 hMx _ _ _ _ _
      have hY1 : MBlk V1 ny #[.string ⟨#[]⟩, .string ⟨#[]⟩, .string ⟨#[]⟩, .string ⟨#[]⟩, .int .i64 0] 29 := by rw [hV1]; exact eblk_far5 hMy hyx _ _ _ _ _
      have hB1 : Below Wd.heap.size Wd V1 := by rw [hV1]; exact below_set5 bAB hx0 _ _ _ _ _
      obtain ⟨V2, hV2⟩ : ∃ V2, V2 = (((((V1.setCell ⟨ny, 0, none⟩ (.string g.id)).setCell ⟨ny, 1, none⟩ (.string ⟨#[]⟩)).setCell ⟨ny, 2, none⟩ (.string ⟨#[]⟩)).setCell ⟨ny, 3, none⟩ (.string ⟨#[]⟩)).setCell ⟨ny, 4, none⟩ (.int .i64 g.upd)) := ⟨_, rfl⟩
      have hY2 : MBlk V2 ny #[.string g.id, .string ⟨#[]⟩, .string ⟨#[]⟩, .string ⟨#[]⟩, .int .i64 g.upd] 29 := by rw [hV2]; exact eblk_set5 hY1 _ _ _ _ _
      have hX2 : MBlk V2 nx #[.string f.id, .string ⟨#[]⟩, .string ⟨#[]⟩, .string ⟨#[]⟩, .int .i64 f.upd] 29 := by rw [hV2]; exact eblk_far5 hX1 hxy _ _ _ _ _
      have hB2 : Below Wd.heap.size Wd V2 := by rw [hV2]; exact below_set5 hB1 hy0 _ _ _ _ _
      have r0 := hMx.cell 0
      have t0 := hMx.fr 0
      have r1 := hMx.cell 1
      have t1 := hMx.fr 1
      have r2 := hMx.cell 2
      have t2 := hMx.fr 2
      have r3 := hMx.cell 3
      have t3 := hMx.fr 3
      have r4 := hMx.cell 4
      have t4 := hMx.fr 4
      simp only [List.getElem?_toArray, List.getElem?_cons_zero, List.getElem?_cons_succ] at r0 r1 r2 r3 r4
      refine anyL_ready (rs := [12]) (by kernel_rfl) (by simp) ?_
      refine AllL.cons (o := { dst := none, op := Go.Op.store 29 (Go.Operand.tmp 13) (Go.Operand.tmp 100), type := 0, pos := "law.go:84", after := #[{ on := 10, ground := Go.Ground.data }, { on := 4, ground := Go.Ground.data }, { on := 0, ground := Go.Ground.phase }, { on := 1, ground := Go.Ground.phase }, { on := 2, ground := Go.Ground.phase }, { on := 3, ground := Go.Ground.phase }, { on := 4, ground := Go.Ground.phase }, { on := 5, ground := Go.Ground.textOnly Go.Departure.lateStores }, { on := 6, ground := Go.Ground.textOnly Go.Departure.lateStores }, { on := 7, ground := Go.Ground.textOnly Go.Departure.lateStores }, { on := 8, ground := Go.Ground.textOnly Go.Departure.lateStores }, { on := 9, ground := Go.Ground.textOnly Go.Departure.lateStores }, { on := 10, ground := Go.Ground.phase }, { on := 11, ground := Go.Ground.phase }], guard := none }) rfl (fun K' hK => ?_) AllL.nil
      rw [if_pos (by rfl)]
      go_simp
      simp only [← hV1]
      refine hK _ _ (HSB.out _ _ hB1 SD) ?_
      clear hK K' hV1 r0 t0 r1 t1 r2 t2 r3 t3 r4 t4
      try simp only [Act.put, List.setIfInBounds_toArray, List.set_cons_zero, List.set_cons_succ]
      have r0 := hY1.cell 0
      have t0 := hY1.fr 0
      have r1 := hY1.cell 1
      have t1 := hY1.fr 1
      have r2 := hY1.cell 2
      have t2 := hY1.fr 2
      have r3 := hY1.cell 3
      have t3 := hY1.fr 3
      have r4 := hY1.cell 4
      have t4 := hY1.fr 4
      simp only [List.getElem?_toArray, List.getElem?_cons_zero, List.getElem?_cons_succ] at r0 r1 r2 r3 r4
      refine anyL_ready (rs := [13]) (by kernel_rfl) (by simp) ?_
      refine AllL.cons (o := { dst := none, op := Go.Op.store 29 (Go.Operand.tmp 14) (Go.Operand.tmp 105), type := 0, pos := "law.go:84", after := #[{ on := 11, ground := Go.Ground.data }, { on := 9, ground := Go.Ground.data }, { on := 12, ground := Go.Ground.chain }, { on := 0, ground := Go.Ground.phase }, { on := 1, ground := Go.Ground.phase }, { on := 2, ground := Go.Ground.phase }, { on := 3, ground := Go.Ground.phase }, { on := 4, ground := Go.Ground.phase }, { on := 5, ground := Go.Ground.phase }, { on := 6, ground := Go.Ground.phase }, { on := 7, ground := Go.Ground.phase }, { on := 8, ground := Go.Ground.phase }, { on := 9, ground := Go.Ground.phase }, { on := 10, ground := Go.Ground.phase }, { on := 11, ground := Go.Ground.phase }, { on := 12, ground := Go.Ground.phase }], guard := none }) rfl (fun K' hK => ?_) AllL.nil
      rw [if_pos (by rfl)]
      go_simp
      simp only [← hV2]
      refine hK _ _ (HSB.out _ _ hB2 SD) ?_
      clear hK K' hV2 r0 t0 r1 t1 r2 t2 r3 t3 r4 t4
      try simp only [Act.put, List.setIfInBounds_toArray, List.set_cons_zero, List.set_cons_succ]
      refine anyL_done (by kernel_rfl) ?_ _
      have HB := Lib.hid (HB.out.trans (hB2.mono HB.out.size))
      have HS := Lib.hid (show EBox V2 nx A ∧ EBox V2 ny B ∧ True from by
        rw [qhA.out, qhB.out]
        exact ⟨⟨hX2.cell 0, hX2.cell 1, hX2.cell 2, hX2.cell 3, hX2.cell 4⟩, ⟨hY2.cell 0, hY2.cell 1, hY2.cell 2, hY2.cell 3, hY2.cell 4⟩, trivial⟩)
      have HSB := Lib.hid (fun (u1 u2 : World) (hb : Below u1.heap.size u1 u2) (hss : EBox u1 nx A ∧ EBox u1 ny B ∧ True) => (show EBox u2 nx A ∧ EBox u2 ny B ∧ True from ⟨hss.1.below hb, hss.2.1.below hb, trivial⟩))
      clear hMx hMy hX1 hY1 hX2 hY2 hB1 hB2 bAB hSb SD hxy hyx hx0 hy0
      have hjn := qjn.out
      have hje := qje.out
      have hjq := qjq.out
      have j1 := qj1.out
      have j2 := qj2.out
      unfold EntV at hjq j1 j2
      have qj1 := Lib.hid j1
      have qj2 := Lib.hid j2
      clear j1 j2 qjn qje qjq qhA qhB
      have hcc : (C == C) = true := by simp
      obtain ⟨⟨f00, f01, f02, f03, f04⟩, ⟨f10, f11, f12, f13, f14⟩, -⟩ := id HS.out
      go_wp2
      have SD71 : EBox V2.drew nx A ∧ EBox V2.drew ny B ∧ True := HS.out
      have HD71 := Lib.hid (show Below w.heap.size w V2.drew from HB.out.drew)
      clear HS HB
      clear f00 f01 f02 f03 f04 f10 f11 f12 f13 f14
      refine wp_region_late (S := fun w' => EBox w' nx A ∧ EBox w' ny B ∧ True) (D := []) (by kernel_rfl) ?_
      refine anyL_ready (rs := [0]) (by kernel_rfl) (by simp) ?_
      refine AllL.cons (o := { dst := some 106, op := Go.Op.call { callee := Go.Callee.value (Go.Operand.func 8), args := #[], argTypes := #[] }, type := 4, pos := "law.go:85", after := #[], guard := none }) rfl (fun K' hK => ?_) AllL.nil
      rw [if_pos (by rfl)]
      go_simp
      go_at_call 8
      refine (qcA.out _ HD71.out).mono ?_
      rintro e72 w72 ⟨rfl, b72⟩
      have S72 := HSB.out _ _ b72 SD71
      have HB72 := Lib.hid (HD71.out.trans (b72.mono HD71.out.size))
      refine hK _ _ S72 ?_
      clear hK K' b72 SD71
      try simp only [Act.put, List.setIfInBounds_toArray, List.set_cons_zero, List.set_cons_succ]
      refine anyL_take (i := 1) (oi := { dst := some 107, op := Go.Op.move (Go.Operand.tmp 106), type := 4, pos := "law.go:85", after := #[{ on := 0, ground := Go.Ground.data }, { on := 0, ground := Go.Ground.chain }], guard := none }) (v := ?_) rfl (by decide) (by kernel_rfl) (by kernel_rfl) (by kernel_rfl) (by kernel_rfl) (fun _ _ _ h => h) (Or.inl ⟨by rfl, ?_⟩) S72 ?_
      rotate_left
      · intro wz hSz
        skip
        go_simp
        (try with_reducible rfl)
      try simp only [Act.put, List.setIfInBounds_toArray, List.set_cons_zero, List.set_cons_succ]
      refine anyL_take (i := 2) (oi := { dst := some 108, op := Go.Op.load 29 (Go.Operand.tmp 13), type := 29, pos := "law.go:85", after := #[{ on := 1, ground := Go.Ground.guard }], guard := some (1, true) }) (v := ?_) rfl (by decide) (by kernel_rfl) (by kernel_rfl) (by kernel_rfl) (by kernel_rfl) (fun _ _ _ h => h) (Or.inl ⟨by rfl, ?_⟩) S72 ?_
      rotate_left
      · intro wz hSz
        obtain ⟨⟨z0, z1, z2, z3, z4⟩, ⟨z5, z6, z7, z8, z9⟩, -⟩ := hSz
        go_simp
        (try with_reducible rfl)
      try simp only [Act.put, List.setIfInBounds_toArray, List.set_cons_zero, List.set_cons_succ]
      refine anyL_take (i := 3) (oi := { dst := some 109, op := Go.Op.load 29 (Go.Operand.tmp 14), type := 29, pos := "law.go:85", after := #[{ on := 1, ground := Go.Ground.guard }], guard := some (1, true) }) (v := ?_) rfl (by decide) (by kernel_rfl) (by kernel_rfl) (by kernel_rfl) (by kernel_rfl) (fun _ _ _ h => h) (Or.inl ⟨by rfl, ?_⟩) S72 ?_
      rotate_left
      · intro wz hSz
        obtain ⟨⟨z0, z1, z2, z3, z4⟩, ⟨z5, z6, z7, z8, z9⟩, -⟩ := hSz
        go_simp
        (try with_reducible rfl)
      try simp only [Act.put, List.setIfInBounds_toArray, List.set_cons_zero, List.set_cons_succ]
      refine anyL_take (i := 5) (oi := { dst := some 111, op := Go.Op.load 29 (Go.Operand.tmp 14), type := 29, pos := "law.go:85", after := #[{ on := 1, ground := Go.Ground.guard }], guard := some (1, true) }) (v := ?_) rfl (by decide) (by kernel_rfl) (by kernel_rfl) (by kernel_rfl) (by kernel_rfl) (fun _ _ _ h => h) (Or.inl ⟨by rfl, ?_⟩) S72 ?_
      rotate_left
      · intro wz hSz
        obtain ⟨⟨z0, z1, z2, z3, z4⟩, ⟨z5, z6, z7, z8, z9⟩, -⟩ := hSz
        go_simp
        (try with_reducible rfl)
      try simp only [Act.put, List.setIfInBounds_toArray, List.set_cons_zero, List.set_cons_succ]
      refine anyL_take (i := 6) (oi := { dst := some 112, op := Go.Op.load 29 (Go.Operand.tmp 13), type := 29, pos := "law.go:85", after := #[{ on := 1, ground := Go.Ground.guard }], guard := some (1, true) }) (v := ?_) rfl (by decide) (by kernel_rfl) (by kernel_rfl) (by kernel_rfl) (by kernel_rfl) (fun _ _ _ h => h) (Or.inl ⟨by rfl, ?_⟩) S72 ?_
      rotate_left
      · intro wz hSz
        obtain ⟨⟨z0, z1, z2, z3, z4⟩, ⟨z5, z6, z7, z8, z9⟩, -⟩ := hSz
        go_simp
        (try with_reducible rfl)
      try simp only [Act.put, List.setIfInBounds_toArray, List.set_cons_zero, List.set_cons_succ]
      refine anyL_ready (rs := [4]) (by kernel_rfl) (by simp) ?_
      refine AllL.cons (o := { dst := some 110, op := Go.Op.call { callee := Go.Callee.value (Go.Operand.func 9), args := #[Go.Operand.tmp 108, Go.Operand.tmp 109], argTypes := #[29, 29] }, type := 3, pos := "law.go:85", after := #[{ on := 2, ground := Go.Ground.data }, { on := 3, ground := Go.Ground.data }, { on := 1, ground := Go.Ground.chain }, { on := 1, ground := Go.Ground.guard }], guard := some (1, true) }) rfl (fun K' hK => ?_) AllL.nil
      rw [if_pos (by rfl)]
      go_simp
      go_at_call 9
      refine (qj1.out _).mono ?_
      rintro e73 w73 ⟨rfl, b73⟩
      have S73 := HSB.out _ _ b73 S72
      have HB73 := Lib.hid (HB72.out.trans (b73.mono HB72.out.size))
      refine hK _ _ S73 ?_
      clear hK K' b73 S72
      try simp only [Act.put, List.setIfInBounds_toArray, List.set_cons_zero, List.set_cons_succ]
      refine anyL_ready (rs := [7]) (by kernel_rfl) (by simp) ?_
      refine AllL.cons (o := { dst := some 113, op := Go.Op.call { callee := Go.Callee.value (Go.Operand.func 9), args := #[Go.Operand.tmp 111, Go.Operand.tmp 112], argTypes := #[29, 29] }, type := 3, pos := "law.go:85", after := #[{ on := 5, ground := Go.Ground.data }, { on := 6, ground := Go.Ground.data }, { on := 4, ground := Go.Ground.chain }, { on := 1, ground := Go.Ground.guard }], guard := some (1, true) }) rfl (fun K' hK => ?_) AllL.nil
      rw [if_pos (by rfl)]
      go_simp
      go_at_call 9
      refine (qj2.out _).mono ?_
      rintro e74 w74 ⟨rfl, b74⟩
      have S74 := HSB.out _ _ b74 S73
      have HB74 := Lib.hid (HB73.out.trans (b74.mono HB73.out.size))
      refine hK _ _ S74 ?_
      clear hK K' b74 S73
      try simp only [Act.put, List.setIfInBounds_toArray, List.set_cons_zero, List.set_cons_succ]
      refine anyL_take (i := 8) (oi := { dst := some 114, op := Go.Op.unOp Go.UnOp.neg 3 (Go.Operand.tmp 113), type := 3, pos := "law.go:85", after := #[{ on := 7, ground := Go.Ground.data }, { on := 1, ground := Go.Ground.guard }], guard := some (1, true) }) (v := ?_) rfl (by decide) (by kernel_rfl) (by kernel_rfl) (by kernel_rfl) (by kernel_rfl) (fun _ _ _ h => h) (Or.inl ⟨by rfl, ?_⟩) S74 ?_
      rotate_left
      · intro wz hSz
        skip
        go_simp
        (try with_reducible rfl)
      try simp only [Act.put, List.setIfInBounds_toArray, List.set_cons_zero, List.set_cons_succ]
      refine anyL_take (i := 9) (oi := { dst := some 115, op := Go.Op.binOp Go.BinOp.eql 3 (Go.Operand.tmp 110) (Go.Operand.tmp 114) 3, type := 4, pos := "law.go:85", after := #[{ on := 4, ground := Go.Ground.data }, { on := 8, ground := Go.Ground.data }, { on := 1, ground := Go.Ground.guard }], guard := some (1, true) }) (v := ?_) rfl (by decide) (by kernel_rfl) (by kernel_rfl) (by kernel_rfl) (by kernel_rfl) (fun _ _ _ h => h) (Or.inl ⟨by rfl, ?_⟩) S74 ?_
      rotate_left
      · intro wz hSz
        skip
        go_simp
        (try with_reducible rfl)
      try simp only [Act.put, List.setIfInBounds_toArray, List.set_cons_zero, List.set_cons_succ]
      refine anyL_take (i := 10) (oi := { dst := some 116, op := Go.Op.pick (Go.Operand.tmp 107) (Go.Operand.tmp 115) (Go.Operand.const (Go.Value.bool false)), type := 4, pos := "law.go:85", after := #[{ on := 1, ground := Go.Ground.data }, { on := 9, ground := Go.Ground.data }], guard := none }) (v := ?_) rfl (by decide) (by kernel_rfl) (by kernel_rfl) (by kernel_rfl) (by kernel_rfl) (fun _ _ _ h => h) (Or.inl ⟨by rfl, ?_⟩) S74 ?_
      rotate_left
      · intro wz hSz
        skip
        go_simp
        (try with_reducible rfl)
      try simp only [Act.put, List.setIfInBounds_toArray, List.set_cons_zero, List.set_cons_succ]
      refine anyL_take (i := 11) (oi := { dst := some 117, op := Go.Op.move (Go.Operand.tmp 116), type := 4, pos := "law.go:85", after := #[{ on := 10, ground := Go.Ground.data }, { on := 7, ground := Go.Ground.chain }], guard := none }) (v := ?_) rfl (by decide) (by kernel_rfl) (by kernel_rfl) (by kernel_rfl) (by kernel_rfl) (fun _ _ _ h => h) (Or.inl ⟨by rfl, ?_⟩) S74 ?_
      rotate_left
      · intro wz hSz
        skip
        go_simp
        (try with_reducible rfl)
      try simp only [Act.put, List.setIfInBounds_toArray, List.set_cons_zero, List.set_cons_succ]
      refine anyL_take (i := 12) (oi := { dst := some 118, op := Go.Op.load 29 (Go.Operand.tmp 13), type := 29, pos := "law.go:85", after := #[{ on := 11, ground := Go.Ground.guard }], guard := some (11, true) }) (v := ?_) rfl (by decide) (by kernel_rfl) (by kernel_rfl) (by kernel_rfl) (by kernel_rfl) (fun _ _ _ h => h) (Or.inl ⟨by rfl, ?_⟩) S74 ?_
      rotate_left
      · intro wz hSz
        obtain ⟨⟨z0, z1, z2, z3, z4⟩, ⟨z5, z6, z7, z8, z9⟩, -⟩ := hSz
        go_simp
        (try with_reducible rfl)
      try simp only [Act.put, List.setIfInBounds_toArray, List.set_cons_zero, List.set_cons_succ]
      refine anyL_take (i := 13) (oi := { dst := some 119, op := Go.Op.load 29 (Go.Operand.tmp 14), type := 29, pos := "law.go:85", after := #[{ on := 11, ground := Go.Ground.guard }], guard := some (11, true) }) (v := ?_) rfl (by decide) (by kernel_rfl) (by kernel_rfl) (by kernel_rfl) (by kernel_rfl) (fun _ _ _ h => h) (Or.inl ⟨by rfl, ?_⟩) S74 ?_
      rotate_left
      · intro wz hSz
        obtain ⟨⟨z0, z1, z2, z3, z4⟩, ⟨z5, z6, z7, z8, z9⟩, -⟩ := hSz
        go_simp
        (try with_reducible rfl)
      try simp only [Act.put, List.setIfInBounds_toArray, List.set_cons_zero, List.set_cons_succ]
      refine anyL_take (i := 16) (oi := { dst := some 122, op := Go.Op.load 29 (Go.Operand.tmp 13), type := 29, pos := "law.go:85", after := #[{ on := 11, ground := Go.Ground.guard }], guard := some (11, true) }) (v := ?_) rfl (by decide) (by kernel_rfl) (by kernel_rfl) (by kernel_rfl) (by kernel_rfl) (fun _ _ _ h => h) (Or.inl ⟨by rfl, ?_⟩) S74 ?_
      rotate_left
      · intro wz hSz
        obtain ⟨⟨z0, z1, z2, z3, z4⟩, ⟨z5, z6, z7, z8, z9⟩, -⟩ := hSz
        go_simp
        (try with_reducible rfl)
      try simp only [Act.put, List.setIfInBounds_toArray, List.set_cons_zero, List.set_cons_succ]
      refine anyL_take (i := 17) (oi := { dst := some 123, op := Go.Op.load 29 (Go.Operand.tmp 14), type := 29, pos := "law.go:85", after := #[{ on := 11, ground := Go.Ground.guard }], guard := some (11, true) }) (v := ?_) rfl (by decide) (by kernel_rfl) (by kernel_rfl) (by kernel_rfl) (by kernel_rfl) (fun _ _ _ h => h) (Or.inl ⟨by rfl, ?_⟩) S74 ?_
      rotate_left
      · intro wz hSz
        obtain ⟨⟨z0, z1, z2, z3, z4⟩, ⟨z5, z6, z7, z8, z9⟩, -⟩ := hSz
        go_simp
        (try with_reducible rfl)
      try simp only [Act.put, List.setIfInBounds_toArray, List.set_cons_zero, List.set_cons_succ]
      refine anyL_take (i := 18) (oi := { dst := some 124, op := Go.Op.binOp Go.BinOp.eql 29 (Go.Operand.tmp 122) (Go.Operand.tmp 123) 29, type := 4, pos := "law.go:85", after := #[{ on := 16, ground := Go.Ground.data }, { on := 17, ground := Go.Ground.data }, { on := 11, ground := Go.Ground.guard }], guard := some (11, true) }) (v := ?_) rfl (by decide) (by kernel_rfl) (by kernel_rfl) (by kernel_rfl) (by kernel_rfl) (fun _ _ _ h => h) (Or.inl ⟨by rfl, ?_⟩) S74 ?_
      rotate_left
      · intro wz hSz
        skip
        go_simp
        (try with_reducible rfl)
      try simp only [Act.put, List.setIfInBounds_toArray, List.set_cons_zero, List.set_cons_succ]
      refine anyL_ready (rs := [14]) (by kernel_rfl) (by simp) ?_
      refine AllL.cons (o := { dst := some 120, op := Go.Op.call { callee := Go.Callee.value (Go.Operand.func 9), args := #[Go.Operand.tmp 118, Go.Operand.tmp 119], argTypes := #[29, 29] }, type := 3, pos := "law.go:85", after := #[{ on := 12, ground := Go.Ground.data }, { on := 13, ground := Go.Ground.data }, { on := 11, ground := Go.Ground.chain }, { on := 11, ground := Go.Ground.guard }], guard := some (11, true) }) rfl (fun K' hK => ?_) AllL.nil
      rw [if_pos (by rfl)]
      go_simp
      go_at_call 9
      refine (qj1.out _).mono ?_
      rintro e75 w75 ⟨rfl, b75⟩
      have S75 := HSB.out _ _ b75 S74
      have HB75 := Lib.hid (HB74.out.trans (b75.mono HB74.out.size))
      refine hK _ _ S75 ?_
      clear hK K' b75 S74
      try simp only [Act.put, List.setIfInBounds_toArray, List.set_cons_zero, List.set_cons_succ]
      refine anyL_take (i := 15) (oi := { dst := some 121, op := Go.Op.binOp Go.BinOp.eql 3 (Go.Operand.tmp 120) (Go.Operand.const (Go.Value.int Go.IntKind.i64 0)) 3, type := 4, pos := "law.go:85", after := #[{ on := 14, ground := Go.Ground.data }, { on := 11, ground := Go.Ground.guard }], guard := some (11, true) }) (v := ?_) rfl (by decide) (by kernel_rfl) (by kernel_rfl) (by kernel_rfl) (by kernel_rfl) (fun _ _ _ h => h) (Or.inl ⟨by rfl, ?_⟩) S75 ?_
      rotate_left
      · intro wz hSz
        skip
        go_simp
        (try with_reducible rfl)
      try simp only [Act.put, List.setIfInBounds_toArray, List.set_cons_zero, List.set_cons_succ]
      refine anyL_take (i := 19) (oi := { dst := some 125, op := Go.Op.binOp Go.BinOp.eql 4 (Go.Operand.tmp 121) (Go.Operand.tmp 124) 4, type := 4, pos := "law.go:85", after := #[{ on := 15, ground := Go.Ground.data }, { on := 18, ground := Go.Ground.data }, { on := 11, ground := Go.Ground.guard }], guard := some (11, true) }) (v := ?_) rfl (by decide) (by kernel_rfl) (by kernel_rfl) (by kernel_rfl) (by kernel_rfl) (fun _ _ _ h => h) (Or.inl ⟨by rfl, ?_⟩) S75 ?_
      rotate_left
      · intro wz hSz
        skip
        go_simp
        (try with_reducible rfl)
      try simp only [Act.put, List.setIfInBounds_toArray, List.set_cons_zero, List.set_cons_succ]
      refine anyL_take (i := 20) (oi := { dst := some 126, op := Go.Op.pick (Go.Operand.tmp 117) (Go.Operand.tmp 125) (Go.Operand.const (Go.Value.bool false)), type := 4, pos := "law.go:85", after := #[{ on := 11, ground := Go.Ground.data }, { on := 19, ground := Go.Ground.data }], guard := none }) (v := ?_) rfl (by decide) (by kernel_rfl) (by kernel_rfl) (by kernel_rfl) (by kernel_rfl) (fun _ _ _ h => h) (Or.inl ⟨by rfl, ?_⟩) S75 ?_
      rotate_left
      · intro wz hSz
        skip
        go_simp
        (try with_reducible rfl)
      try simp only [Act.put, List.setIfInBounds_toArray, List.set_cons_zero, List.set_cons_succ]
      refine anyL_take (i := 21) (oi := { dst := some 6, op := Go.Op.assign (Go.Operand.tmp 126), type := 4, pos := "law.go:85", after := #[{ on := 20, ground := Go.Ground.data }, { on := 14, ground := Go.Ground.chain }, { on := 0, ground := Go.Ground.phase }, { on := 1, ground := Go.Ground.phase }, { on := 2, ground := Go.Ground.phase }, { on := 3, ground := Go.Ground.phase }, { on := 4, ground := Go.Ground.phase }, { on := 5, ground := Go.Ground.phase }, { on := 6, ground := Go.Ground.phase }, { on := 7, ground := Go.Ground.phase }, { on := 8, ground := Go.Ground.phase }, { on := 9, ground := Go.Ground.phase }, { on := 10, ground := Go.Ground.phase }, { on := 11, ground := Go.Ground.phase }, { on := 12, ground := Go.Ground.phase }, { on := 13, ground := Go.Ground.phase }, { on := 14, ground := Go.Ground.phase }, { on := 15, ground := Go.Ground.phase }, { on := 16, ground := Go.Ground.phase }, { on := 17, ground := Go.Ground.phase }, { on := 18, ground := Go.Ground.phase }, { on := 19, ground := Go.Ground.phase }, { on := 20, ground := Go.Ground.phase }], guard := none }) (v := ?_) rfl (by decide) (by kernel_rfl) (by kernel_rfl) (by kernel_rfl) (by kernel_rfl) (fun _ _ _ h => h) (Or.inl ⟨by rfl, ?_⟩) S75 ?_
      rotate_left
      · intro wz hSz
        skip
        go_simp
        (try with_reducible rfl)
      try simp only [Act.put, List.setIfInBounds_toArray, List.set_cons_zero, List.set_cons_succ]
      refine anyL_done (by kernel_rfl) ?_ _
      have HS := Lib.hid S75
      have HB := HB75
      clear S75 HB75
      obtain ⟨⟨f00, f01, f02, f03, f04⟩, ⟨f10, f11, f12, f13, f14⟩, -⟩ := id HS.out
      go_wp2
      go_ret
      exact ⟨by first | rfl | simp, HB.out⟩
    · rw [if_pos (by rfl)]
      go_simp
      refine hK _ _ hSA ?_
      clear hK K'
      try simp only [Act.put, List.setIfInBounds_toArray, List.set_cons_zero, List.set_cons_succ]
      refine anyL_ready (rs := [10]) (by kernel_rfl) (by simp) ?_
      refine AllL.cons (o := { dst := some 13, op := Go.Op.alloc 29, type := 0, pos := "law.go:84", after := #[], guard := none }) rfl (fun K' hK => ?_) AllL.nil
      rw [if_pos (by rfl)]
      go_simp
      obtain ⟨Wb, hWb⟩ : ∃ Wb, Wb = (Wd.alloc (.cells #[.string ⟨#[]⟩, .string ⟨#[]⟩, .string ⟨#[]⟩, .string ⟨#[]⟩, .int .i64 0] 29)).alloc (.cells #[.string ⟨#[]⟩, .string ⟨#[]⟩, .string ⟨#[]⟩, .string ⟨#[]⟩, .int .i64 0] 29) := ⟨_, rfl⟩
      have bAB : Below Wd.heap.size Wd Wb := by rw [hWb]; exact ((Below.refl _ _).alloc (Nat.le_refl _) _).alloc (by simp) _
      have hM0 : MBlk Wb Wd.heap.size #[.string ⟨#[]⟩, .string ⟨#[]⟩, .string ⟨#[]⟩, .string ⟨#[]⟩, .int .i64 0] 29 := by
        rw [hWb]
        exact (heap_alloc_old _ _ (by simp)).trans (heap_alloc_new Wd _)
      have hM1 : MBlk Wb (Wd.heap.size + 1) #[.string ⟨#[]⟩, .string ⟨#[]⟩, .string ⟨#[]⟩, .string ⟨#[]⟩, .int .i64 0] 29 := by
        have hnn := heap_alloc_new (Wd.alloc (.cells #[.string ⟨#[]⟩, .string ⟨#[]⟩, .string ⟨#[]⟩, .string ⟨#[]⟩, .int .i64 0] 29)) (.cells #[.string ⟨#[]⟩, .string ⟨#[]⟩, .string ⟨#[]⟩, .string ⟨#[]⟩, .int .i64 0] 29)
        rw [World.size_alloc] at hnn
        rw [hWb]
        exact hnn
      have hSb := HSB.out _ _ bAB SD
      refine hK _ _ (by rw [hWb] at hSb; exact hSb) ?_
      simp only [← hWb]
      clear hK K' hWb hSA
      try simp only [Act.put, List.setIfInBounds_toArray, List.set_cons_zero, List.set_cons_succ]
      obtain ⟨nx, hnx⟩ : ∃ n, n = (Wd.heap.size + 1) := ⟨_, rfl⟩
      obtain ⟨ny, hny⟩ : ∃ n, n = Wd.heap.size := ⟨_, rfl⟩
      have hMx : MBlk Wb nx #[.string ⟨#[]⟩, .string ⟨#[]⟩, .string ⟨#[]⟩, .string ⟨#[]⟩, .int .i64 0] 29 := by rw [hnx]; exact hM1
      have hMy : MBlk Wb ny #[.string ⟨#[]⟩, .string ⟨#[]⟩, .string ⟨#[]⟩, .string ⟨#[]⟩, .int .i64 0] 29 := by rw [hny]; exact hM0
      have hxy : nx ≠ ny := by omega
      have hyx : ny ≠ nx := fun e => hxy e.symm
      have hx0 : Wd.heap.size ≤ nx := by omega
      have hy0 : Wd.heap.size ≤ ny := by omega
      simp only [← hnx]
      simp only [← hny]
      clear hM0 hM1 hnx hny
      obtain ⟨V1, hV1⟩ : ∃ V1, V1 = (((((Wb.setCell ⟨nx, 0, none⟩ (.string f.id)).setCell ⟨nx, 1, none⟩ (.string ⟨#[]⟩)).setCell ⟨nx, 2, none⟩ (.string ⟨#[]⟩)).setCell ⟨nx, 3, none⟩ (.string ⟨#[]⟩)).setCell ⟨nx, 4, none⟩ (.int .i64 f.upd)) := ⟨_, rfl⟩
      have hX1 : MBlk V1 nx #[.string f.id, .string ⟨#[]⟩, .string ⟨#[]⟩, .string ⟨#[]⟩, .int .i64 f.upd] 29 := by rw [hV1]; exact eblk_set5 hMx _ _ _ _ _
      have hY1 : MBlk V1 ny #[.string ⟨#[]⟩, .string ⟨#[]⟩, .string ⟨#[]⟩, .string ⟨#[]⟩, .int .i64 0] 29 := by rw [hV1]; exact eblk_far5 hMy hyx _ _ _ _ _
      have hB1 : Below Wd.heap.size Wd V1 := by rw [hV1]; exact below_set5 bAB hx0 _ _ _ _ _
      obtain ⟨V2, hV2⟩ : ∃ V2, V2 = (((((V1.setCell ⟨ny, 0, none⟩ (.string g.id)).setCell ⟨ny, 1, none⟩ (.string ⟨#[]⟩)).setCell ⟨ny, 2, none⟩ (.string ⟨#[]⟩)).setCell ⟨ny, 3, none⟩ (.string ⟨#[]⟩)).setCell ⟨ny, 4, none⟩ (.int .i64 g.upd)) := ⟨_, rfl⟩
      have hY2 : MBlk V2 ny #[.string g.id, .string ⟨#[]⟩, .string ⟨#[]⟩, .string ⟨#[]⟩, .int .i64 g.upd] 29 := by rw [hV2]; exact eblk_set5 hY1 _ _ _ _ _
      have hX2 : MBlk V2 nx #[.string f.id, .string ⟨#[]⟩, .string ⟨#[]⟩, .string ⟨#[]⟩, .int .i64 f.upd] 29 := by rw [hV2]; exact eblk_far5 hX1 hxy _ _ _ _ _
      have hB2 : Below Wd.heap.size Wd V2 := by rw [hV2]; exact below_set5 hB1 hy0 _ _ _ _ _
      have r0 := hMx.cell 0
      have t0 := hMx.fr 0
      have r1 := hMx.cell 1
      have t1 := hMx.fr 1
      have r2 := hMx.cell 2
      have t2 := hMx.fr 2
      have r3 := hMx.cell 3
      have t3 := hMx.fr 3
      have r4 := hMx.cell 4
      have t4 := hMx.fr 4
      simp only [List.getElem?_toArray, List.getElem?_cons_zero, List.getElem?_cons_succ] at r0 r1 r2 r3 r4
      refine anyL_ready (rs := [12]) (by kernel_rfl) (by simp) ?_
      refine AllL.cons (o := { dst := none, op := Go.Op.store 29 (Go.Operand.tmp 13) (Go.Operand.tmp 100), type := 0, pos := "law.go:84", after := #[{ on := 10, ground := Go.Ground.data }, { on := 4, ground := Go.Ground.data }, { on := 0, ground := Go.Ground.phase }, { on := 1, ground := Go.Ground.phase }, { on := 2, ground := Go.Ground.phase }, { on := 3, ground := Go.Ground.phase }, { on := 4, ground := Go.Ground.phase }, { on := 5, ground := Go.Ground.textOnly Go.Departure.lateStores }, { on := 6, ground := Go.Ground.textOnly Go.Departure.lateStores }, { on := 7, ground := Go.Ground.textOnly Go.Departure.lateStores }, { on := 8, ground := Go.Ground.textOnly Go.Departure.lateStores }, { on := 9, ground := Go.Ground.textOnly Go.Departure.lateStores }, { on := 10, ground := Go.Ground.phase }, { on := 11, ground := Go.Ground.phase }], guard := none }) rfl (fun K' hK => ?_) AllL.nil
      rw [if_pos (by rfl)]
      go_simp
      simp only [← hV1]
      refine hK _ _ (HSB.out _ _ hB1 SD) ?_
      clear hK K' hV1 r0 t0 r1 t1 r2 t2 r3 t3 r4 t4
      try simp only [Act.put, List.setIfInBounds_toArray, List.set_cons_zero, List.set_cons_succ]
      have r0 := hY1.cell 0
      have t0 := hY1.fr 0
      have r1 := hY1.cell 1
      have t1 := hY1.fr 1
      have r2 := hY1.cell 2
      have t2 := hY1.fr 2
      have r3 := hY1.cell 3
      have t3 := hY1.fr 3
      have r4 := hY1.cell 4
      have t4 := hY1.fr 4
      simp only [List.getElem?_toArray, List.getElem?_cons_zero, List.getElem?_cons_succ] at r0 r1 r2 r3 r4
      refine anyL_ready (rs := [13]) (by kernel_rfl) (by simp) ?_
      refine AllL.cons (o := { dst := none, op := Go.Op.store 29 (Go.Operand.tmp 14) (Go.Operand.tmp 105), type := 0, pos := "law.go:84", after := #[{ on := 11, ground := Go.Ground.data }, { on := 9, ground := Go.Ground.data }, { on := 12, ground := Go.Ground.chain }, { on := 0, ground := Go.Ground.phase }, { on := 1, ground := Go.Ground.phase }, { on := 2, ground := Go.Ground.phase }, { on := 3, ground := Go.Ground.phase }, { on := 4, ground := Go.Ground.phase }, { on := 5, ground := Go.Ground.phase }, { on := 6, ground := Go.Ground.phase }, { on := 7, ground := Go.Ground.phase }, { on := 8, ground := Go.Ground.phase }, { on := 9, ground := Go.Ground.phase }, { on := 10, ground := Go.Ground.phase }, { on := 11, ground := Go.Ground.phase }, { on := 12, ground := Go.Ground.phase }], guard := none }) rfl (fun K' hK => ?_) AllL.nil
      rw [if_pos (by rfl)]
      go_simp
      simp only [← hV2]
      refine hK _ _ (HSB.out _ _ hB2 SD) ?_
      clear hK K' hV2 r0 t0 r1 t1 r2 t2 r3 t3 r4 t4
      try simp only [Act.put, List.setIfInBounds_toArray, List.set_cons_zero, List.set_cons_succ]
      refine anyL_done (by kernel_rfl) ?_ _
      have HB := Lib.hid (HB.out.trans (hB2.mono HB.out.size))
      have HS := Lib.hid (show EBox V2 nx A ∧ EBox V2 ny B ∧ True from by
        rw [qhA.out, qhB.out]
        exact ⟨⟨hX2.cell 0, hX2.cell 1, hX2.cell 2, hX2.cell 3, hX2.cell 4⟩, ⟨hY2.cell 0, hY2.cell 1, hY2.cell 2, hY2.cell 3, hY2.cell 4⟩, trivial⟩)
      have HSB := Lib.hid (fun (u1 u2 : World) (hb : Below u1.heap.size u1 u2) (hss : EBox u1 nx A ∧ EBox u1 ny B ∧ True) => (show EBox u2 nx A ∧ EBox u2 ny B ∧ True from ⟨hss.1.below hb, hss.2.1.below hb, trivial⟩))
      clear hMx hMy hX1 hY1 hX2 hY2 hB1 hB2 bAB hSb SD hxy hyx hx0 hy0
      have hjn := qjn.out
      have hje := qje.out
      have hjq := qjq.out
      have j1 := qj1.out
      have j2 := qj2.out
      unfold EntV at hjq j1 j2
      have qj1 := Lib.hid j1
      have qj2 := Lib.hid j2
      clear j1 j2 qjn qje qjq qhA qhB
      have hcc : (C == C) = true := by simp
      obtain ⟨⟨f00, f01, f02, f03, f04⟩, ⟨f10, f11, f12, f13, f14⟩, -⟩ := id HS.out
      go_wp2
      have SD71 : EBox V2.drew nx A ∧ EBox V2.drew ny B ∧ True := HS.out
      have HD71 := Lib.hid (show Below w.heap.size w V2.drew from HB.out.drew)
      clear HS HB
      clear f00 f01 f02 f03 f04 f10 f11 f12 f13 f14
      refine wp_region_late (S := fun w' => EBox w' nx A ∧ EBox w' ny B ∧ True) (D := []) (by kernel_rfl) ?_
      refine anyL_ready (rs := [0]) (by kernel_rfl) (by simp) ?_
      refine AllL.cons (o := { dst := some 106, op := Go.Op.call { callee := Go.Callee.value (Go.Operand.func 8), args := #[], argTypes := #[] }, type := 4, pos := "law.go:85", after := #[], guard := none }) rfl (fun K' hK => ?_) AllL.nil
      rw [if_pos (by rfl)]
      go_simp
      go_at_call 8
      refine (qcA.out _ HD71.out).mono ?_
      rintro e72 w72 ⟨rfl, b72⟩
      have S72 := HSB.out _ _ b72 SD71
      have HB72 := Lib.hid (HD71.out.trans (b72.mono HD71.out.size))
      refine hK _ _ S72 ?_
      clear hK K' b72 SD71
      try simp only [Act.put, List.setIfInBounds_toArray, List.set_cons_zero, List.set_cons_succ]
      refine anyL_take (i := 1) (oi := { dst := some 107, op := Go.Op.move (Go.Operand.tmp 106), type := 4, pos := "law.go:85", after := #[{ on := 0, ground := Go.Ground.data }, { on := 0, ground := Go.Ground.chain }], guard := none }) (v := ?_) rfl (by decide) (by kernel_rfl) (by kernel_rfl) (by kernel_rfl) (by kernel_rfl) (fun _ _ _ h => h) (Or.inl ⟨by rfl, ?_⟩) S72 ?_
      rotate_left
      · intro wz hSz
        skip
        go_simp
        (try with_reducible rfl)
      try simp only [Act.put, List.setIfInBounds_toArray, List.set_cons_zero, List.set_cons_succ]
      refine anyL_take (i := 2) (oi := { dst := some 108, op := Go.Op.load 29 (Go.Operand.tmp 13), type := 29, pos := "law.go:85", after := #[{ on := 1, ground := Go.Ground.guard }], guard := some (1, true) }) (v := ?_) rfl (by decide) (by kernel_rfl) (by kernel_rfl) (by kernel_rfl) (by kernel_rfl) (fun _ _ _ h => h) (Or.inl ⟨by rfl, ?_⟩) S72 ?_
      rotate_left
      · intro wz hSz
        obtain ⟨⟨z0, z1, z2, z3, z4⟩, ⟨z5, z6, z7, z8, z9⟩, -⟩ := hSz
        go_simp
        (try with_reducible rfl)
      try simp only [Act.put, List.setIfInBounds_toArray, List.set_cons_zero, List.set_cons_succ]
      refine anyL_take (i := 3) (oi := { dst := some 109, op := Go.Op.load 29 (Go.Operand.tmp 14), type := 29, pos := "law.go:85", after := #[{ on := 1, ground := Go.Ground.guard }], guard := some (1, true) }) (v := ?_) rfl (by decide) (by kernel_rfl) (by kernel_rfl) (by kernel_rfl) (by kernel_rfl) (fun _ _ _ h => h) (Or.inl ⟨by rfl, ?_⟩) S72 ?_
      rotate_left
      · intro wz hSz
        obtain ⟨⟨z0, z1, z2, z3, z4⟩, ⟨z5, z6, z7, z8, z9⟩, -⟩ := hSz
        go_simp
        (try with_reducible rfl)
      try simp only [Act.put, List.setIfInBounds_toArray, List.set_cons_zero, List.set_cons_succ]
      refine anyL_take (i := 5) (oi := { dst := some 111, op := Go.Op.load 29 (Go.Operand.tmp 14), type := 29, pos := "law.go:85", after := #[{ on := 1, ground := Go.Ground.guard }], guard := some (1, true) }) (v := ?_) rfl (by decide) (by kernel_rfl) (by kernel_rfl) (by kernel_rfl) (by kernel_rfl) (fun _ _ _ h => h) (Or.inl ⟨by rfl, ?_⟩) S72 ?_
      rotate_left
      · intro wz hSz
        obtain ⟨⟨z0, z1, z2, z3, z4⟩, ⟨z5, z6, z7, z8, z9⟩, -⟩ := hSz
        go_simp
        (try with_reducible rfl)
      try simp only [Act.put, List.setIfInBounds_toArray, List.set_cons_zero, List.set_cons_succ]
      refine anyL_take (i := 6) (oi := { dst := some 112, op := Go.Op.load 29 (Go.Operand.tmp 13), type := 29, pos := "law.go:85", after := #[{ on := 1, ground := Go.Ground.guard }], guard := some (1, true) }) (v := ?_) rfl (by decide) (by kernel_rfl) (by kernel_rfl) (by kernel_rfl) (by kernel_rfl) (fun _ _ _ h => h) (Or.inl ⟨by rfl, ?_⟩) S72 ?_
      rotate_left
      · intro wz hSz
        obtain ⟨⟨z0, z1, z2, z3, z4⟩, ⟨z5, z6, z7, z8, z9⟩, -⟩ := hSz
        go_simp
        (try with_reducible rfl)
      try simp only [Act.put, List.setIfInBounds_toArray, List.set_cons_zero, List.set_cons_succ]
      refine anyL_ready (rs := [4]) (by kernel_rfl) (by simp) ?_
      refine AllL.cons (o := { dst := some 110, op := Go.Op.call { callee := Go.Callee.value (Go.Operand.func 9), args := #[Go.Operand.tmp 108, Go.Operand.tmp 109], argTypes := #[29, 29] }, type := 3, pos := "law.go:85", after := #[{ on := 2, ground := Go.Ground.data }, { on := 3, ground := Go.Ground.data }, { on := 1, ground := Go.Ground.chain }, { on := 1, ground := Go.Ground.guard }], guard := some (1, true) }) rfl (fun K' hK => ?_) AllL.nil
      rw [if_pos (by rfl)]
      go_simp
      go_at_call 9
      refine (qj1.out _).mono ?_
      rintro e73 w73 ⟨rfl, b73⟩
      have S73 := HSB.out _ _ b73 S72
      have HB73 := Lib.hid (HB72.out.trans (b73.mono HB72.out.size))
      refine hK _ _ S73 ?_
      clear hK K' b73 S72
      try simp only [Act.put, List.setIfInBounds_toArray, List.set_cons_zero, List.set_cons_succ]
      refine anyL_ready (rs := [7]) (by kernel_rfl) (by simp) ?_
      refine AllL.cons (o := { dst := some 113, op := Go.Op.call { callee := Go.Callee.value (Go.Operand.func 9), args := #[Go.Operand.tmp 111, Go.Operand.tmp 112], argTypes := #[29, 29] }, type := 3, pos := "law.go:85", after := #[{ on := 5, ground := Go.Ground.data }, { on := 6, ground := Go.Ground.data }, { on := 4, ground := Go.Ground.chain }, { on := 1, ground := Go.Ground.guard }], guard := some (1, true) }) rfl (fun K' hK => ?_) AllL.nil
      rw [if_pos (by rfl)]
      go_simp
      go_at_call 9
      refine (qj2.out _).mono ?_
      rintro e74 w74 ⟨rfl, b74⟩
      have S74 := HSB.out _ _ b74 S73
      have HB74 := Lib.hid (HB73.out.trans (b74.mono HB73.out.size))
      refine hK _ _ S74 ?_
      clear hK K' b74 S73
      try simp only [Act.put, List.setIfInBounds_toArray, List.set_cons_zero, List.set_cons_succ]
      refine anyL_take (i := 8) (oi := { dst := some 114, op := Go.Op.unOp Go.UnOp.neg 3 (Go.Operand.tmp 113), type := 3, pos := "law.go:85", after := #[{ on := 7, ground := Go.Ground.data }, { on := 1, ground := Go.Ground.guard }], guard := some (1, true) }) (v := ?_) rfl (by decide) (by kernel_rfl) (by kernel_rfl) (by kernel_rfl) (by kernel_rfl) (fun _ _ _ h => h) (Or.inl ⟨by rfl, ?_⟩) S74 ?_
      rotate_left
      · intro wz hSz
        skip
        go_simp
        (try with_reducible rfl)
      try simp only [Act.put, List.setIfInBounds_toArray, List.set_cons_zero, List.set_cons_succ]
      refine anyL_take (i := 9) (oi := { dst := some 115, op := Go.Op.binOp Go.BinOp.eql 3 (Go.Operand.tmp 110) (Go.Operand.tmp 114) 3, type := 4, pos := "law.go:85", after := #[{ on := 4, ground := Go.Ground.data }, { on := 8, ground := Go.Ground.data }, { on := 1, ground := Go.Ground.guard }], guard := some (1, true) }) (v := ?_) rfl (by decide) (by kernel_rfl) (by kernel_rfl) (by kernel_rfl) (by kernel_rfl) (fun _ _ _ h => h) (Or.inl ⟨by rfl, ?_⟩) S74 ?_
      rotate_left
      · intro wz hSz
        skip
        go_simp
        (try with_reducible rfl)
      try simp only [Act.put, List.setIfInBounds_toArray, List.set_cons_zero, List.set_cons_succ]
      refine anyL_take (i := 10) (oi := { dst := some 116, op := Go.Op.pick (Go.Operand.tmp 107) (Go.Operand.tmp 115) (Go.Operand.const (Go.Value.bool false)), type := 4, pos := "law.go:85", after := #[{ on := 1, ground := Go.Ground.data }, { on := 9, ground := Go.Ground.data }], guard := none }) (v := ?_) rfl (by decide) (by kernel_rfl) (by kernel_rfl) (by kernel_rfl) (by kernel_rfl) (fun _ _ _ h => h) (Or.inl ⟨by rfl, ?_⟩) S74 ?_
      rotate_left
      · intro wz hSz
        skip
        go_simp
        (try with_reducible rfl)
      try simp only [Act.put, List.setIfInBounds_toArray, List.set_cons_zero, List.set_cons_succ]
      refine anyL_take (i := 11) (oi := { dst := some 117, op := Go.Op.move (Go.Operand.tmp 116), type := 4, pos := "law.go:85", after := #[{ on := 10, ground := Go.Ground.data }, { on := 7, ground := Go.Ground.chain }], guard := none }) (v := ?_) rfl (by decide) (by kernel_rfl) (by kernel_rfl) (by kernel_rfl) (by kernel_rfl) (fun _ _ _ h => h) (Or.inl ⟨by rfl, ?_⟩) S74 ?_
      rotate_left
      · intro wz hSz
        skip
        go_simp
        (try with_reducible rfl)
      try simp only [Act.put, List.setIfInBounds_toArray, List.set_cons_zero, List.set_cons_succ]
      refine anyL_take (i := 12) (oi := { dst := some 118, op := Go.Op.load 29 (Go.Operand.tmp 13), type := 29, pos := "law.go:85", after := #[{ on := 11, ground := Go.Ground.guard }], guard := some (11, true) }) (v := ?_) rfl (by decide) (by kernel_rfl) (by kernel_rfl) (by kernel_rfl) (by kernel_rfl) (fun _ _ _ h => h) (Or.inl ⟨by rfl, ?_⟩) S74 ?_
      rotate_left
      · intro wz hSz
        obtain ⟨⟨z0, z1, z2, z3, z4⟩, ⟨z5, z6, z7, z8, z9⟩, -⟩ := hSz
        go_simp
        (try with_reducible rfl)
      try simp only [Act.put, List.setIfInBounds_toArray, List.set_cons_zero, List.set_cons_succ]
      refine anyL_take (i := 13) (oi := { dst := some 119, op := Go.Op.load 29 (Go.Operand.tmp 14), type := 29, pos := "law.go:85", after := #[{ on := 11, ground := Go.Ground.guard }], guard := some (11, true) }) (v := ?_) rfl (by decide) (by kernel_rfl) (by kernel_rfl) (by kernel_rfl) (by kernel_rfl) (fun _ _ _ h => h) (Or.inl ⟨by rfl, ?_⟩) S74 ?_
      rotate_left
      · intro wz hSz
        obtain ⟨⟨z0, z1, z2, z3, z4⟩, ⟨z5, z6, z7, z8, z9⟩, -⟩ := hSz
        go_simp
        (try with_reducible rfl)
      try simp only [Act.put, List.setIfInBounds_toArray, List.set_cons_zero, List.set_cons_succ]
      refine anyL_take (i := 16) (oi := { dst := some 122, op := Go.Op.load 29 (Go.Operand.tmp 13), type := 29, pos := "law.go:85", after := #[{ on := 11, ground := Go.Ground.guard }], guard := some (11, true) }) (v := ?_) rfl (by decide) (by kernel_rfl) (by kernel_rfl) (by kernel_rfl) (by kernel_rfl) (fun _ _ _ h => h) (Or.inl ⟨by rfl, ?_⟩) S74 ?_
      rotate_left
      · intro wz hSz
        obtain ⟨⟨z0, z1, z2, z3, z4⟩, ⟨z5, z6, z7, z8, z9⟩, -⟩ := hSz
        go_simp
        (try with_reducible rfl)
      try simp only [Act.put, List.setIfInBounds_toArray, List.set_cons_zero, List.set_cons_succ]
      refine anyL_take (i := 17) (oi := { dst := some 123, op := Go.Op.load 29 (Go.Operand.tmp 14), type := 29, pos := "law.go:85", after := #[{ on := 11, ground := Go.Ground.guard }], guard := some (11, true) }) (v := ?_) rfl (by decide) (by kernel_rfl) (by kernel_rfl) (by kernel_rfl) (by kernel_rfl) (fun _ _ _ h => h) (Or.inl ⟨by rfl, ?_⟩) S74 ?_
      rotate_left
      · intro wz hSz
        obtain ⟨⟨z0, z1, z2, z3, z4⟩, ⟨z5, z6, z7, z8, z9⟩, -⟩ := hSz
        go_simp
        (try with_reducible rfl)
      try simp only [Act.put, List.setIfInBounds_toArray, List.set_cons_zero, List.set_cons_succ]
      refine anyL_take (i := 18) (oi := { dst := some 124, op := Go.Op.binOp Go.BinOp.eql 29 (Go.Operand.tmp 122) (Go.Operand.tmp 123) 29, type := 4, pos := "law.go:85", after := #[{ on := 16, ground := Go.Ground.data }, { on := 17, ground := Go.Ground.data }, { on := 11, ground := Go.Ground.guard }], guard := some (11, true) }) (v := ?_) rfl (by decide) (by kernel_rfl) (by kernel_rfl) (by kernel_rfl) (by kernel_rfl) (fun _ _ _ h => h) (Or.inl ⟨by rfl, ?_⟩) S74 ?_
      rotate_left
      · intro wz hSz
        skip
        go_simp
        (try with_reducible rfl)
      try simp only [Act.put, List.setIfInBounds_toArray, List.set_cons_zero, List.set_cons_succ]
      refine anyL_ready (rs := [14]) (by kernel_rfl) (by simp) ?_
      refine AllL.cons (o := { dst := some 120, op := Go.Op.call { callee := Go.Callee.value (Go.Operand.func 9), args := #[Go.Operand.tmp 118, Go.Operand.tmp 119], argTypes := #[29, 29] }, type := 3, pos := "law.go:85", after := #[{ on := 12, ground := Go.Ground.data }, { on := 13, ground := Go.Ground.data }, { on := 11, ground := Go.Ground.chain }, { on := 11, ground := Go.Ground.guard }], guard := some (11, true) }) rfl (fun K' hK => ?_) AllL.nil
      rw [if_pos (by rfl)]
      go_simp
      go_at_call 9
      refine (qj1.out _).mono ?_
      rintro e75 w75 ⟨rfl, b75⟩
      have S75 := HSB.out _ _ b75 S74
      have HB75 := Lib.hid (HB74.out.trans (b75.mono HB74.out.size))
      refine hK _ _ S75 ?_
      clear hK K' b75 S74
      try simp only [Act.put, List.setIfInBounds_toArray, List.set_cons_zero, List.set_cons_succ]
      refine anyL_take (i := 15) (oi := { dst := some 121, op := Go.Op.binOp Go.BinOp.eql 3 (Go.Operand.tmp 120) (Go.Operand.const (Go.Value.int Go.IntKind.i64 0)) 3, type := 4, pos := "law.go:85", after := #[{ on := 14, ground := Go.Ground.data }, { on := 11, ground := Go.Ground.guard }], guard := some (11, true) }) (v := ?_) rfl (by decide) (by kernel_rfl) (by kernel_rfl) (by kernel_rfl) (by kernel_rfl) (fun _ _ _ h => h) (Or.inl ⟨by rfl, ?_⟩) S75 ?_
      rotate_left
      · intro wz hSz
        skip
        go_simp
        (try with_reducible rfl)
      try simp only [Act.put, List.setIfInBounds_toArray, List.set_cons_zero, List.set_cons_succ]
      refine anyL_take (i := 19) (oi := { dst := some 125, op := Go.Op.binOp Go.BinOp.eql 4 (Go.Operand.tmp 121) (Go.Operand.tmp 124) 4, type := 4, pos := "law.go:85", after := #[{ on := 15, ground := Go.Ground.data }, { on := 18, ground := Go.Ground.data }, { on := 11, ground := Go.Ground.guard }], guard := some (11, true) }) (v := ?_) rfl (by decide) (by kernel_rfl) (by kernel_rfl) (by kernel_rfl) (by kernel_rfl) (fun _ _ _ h => h) (Or.inl ⟨by rfl, ?_⟩) S75 ?_
      rotate_left
      · intro wz hSz
        skip
        go_simp
        (try with_reducible rfl)
      try simp only [Act.put, List.setIfInBounds_toArray, List.set_cons_zero, List.set_cons_succ]
      refine anyL_take (i := 20) (oi := { dst := some 126, op := Go.Op.pick (Go.Operand.tmp 117) (Go.Operand.tmp 125) (Go.Operand.const (Go.Value.bool false)), type := 4, pos := "law.go:85", after := #[{ on := 11, ground := Go.Ground.data }, { on := 19, ground := Go.Ground.data }], guard := none }) (v := ?_) rfl (by decide) (by kernel_rfl) (by kernel_rfl) (by kernel_rfl) (by kernel_rfl) (fun _ _ _ h => h) (Or.inl ⟨by rfl, ?_⟩) S75 ?_
      rotate_left
      · intro wz hSz
        skip
        go_simp
        (try with_reducible rfl)
      try simp only [Act.put, List.setIfInBounds_toArray, List.set_cons_zero, List.set_cons_succ]
      refine anyL_take (i := 21) (oi := { dst := some 6, op := Go.Op.assign (Go.Operand.tmp 126), type := 4, pos := "law.go:85", after := #[{ on := 20, ground := Go.Ground.data }, { on := 14, ground := Go.Ground.chain }, { on := 0, ground := Go.Ground.phase }, { on := 1, ground := Go.Ground.phase }, { on := 2, ground := Go.Ground.phase }, { on := 3, ground := Go.Ground.phase }, { on := 4, ground := Go.Ground.phase }, { on := 5, ground := Go.Ground.phase }, { on := 6, ground := Go.Ground.phase }, { on := 7, ground := Go.Ground.phase }, { on := 8, ground := Go.Ground.phase }, { on := 9, ground := Go.Ground.phase }, { on := 10, ground := Go.Ground.phase }, { on := 11, ground := Go.Ground.phase }, { on := 12, ground := Go.Ground.phase }, { on := 13, ground := Go.Ground.phase }, { on := 14, ground := Go.Ground.phase }, { on := 15, ground := Go.Ground.phase }, { on := 16, ground := Go.Ground.phase }, { on := 17, ground := Go.Ground.phase }, { on := 18, ground := Go.Ground.phase }, { on := 19, ground := Go.Ground.phase }, { on := 20, ground := Go.Ground.phase }], guard := none }) (v := ?_) rfl (by decide) (by kernel_rfl) (by kernel_rfl) (by kernel_rfl) (by kernel_rfl) (fun _ _ _ h => h) (Or.inl ⟨by rfl, ?_⟩) S75 ?_
      rotate_left
      · intro wz hSz
        skip
        go_simp
        (try with_reducible rfl)
      try simp only [Act.put, List.setIfInBounds_toArray, List.set_cons_zero, List.set_cons_succ]
      refine anyL_done (by kernel_rfl) ?_ _
      have HS := Lib.hid S75
      have HB := HB75
      clear S75 HB75
      obtain ⟨⟨f00, f01, f02, f03, f04⟩, ⟨f10, f11, f12, f13, f14⟩, -⟩ := id HS.out
      go_wp2
      go_ret
      exact ⟨by first | rfl | simp, HB.out⟩
theorem walk_Orders (f g h : FeedD) (v1 v2 v3 : Value) (w : World) (hf : FeedIs w f v1) (hg : FeedIs w g v2) (hh : FeedIs w h v3) (hWf : FWf f) (hWg : FWf g) (hWh : FWf h) (hT : TabW w):
    Calls Tryd.prog 4 #[v1, v2, v3] w fun e' w' => e' = .returned (.bool true) ∧ Below w.heap.size w w' := by
  rcases hl1 : tlF 0 [f] with _ | _
  · rcases hl2 : tlF 0 [g] with _ | _
    · rcases hl3 : tlF 0 [h] with _ | _
      · exact walk_OrdersD f g h v1 v2 v3 w hf hg hh hWf hWg hWh hT hl1 hl2 hl3
      · exact walk_OrdersC f g h v1 v2 v3 w hf hg hh hWf hWg hWh hT hl1 hl2 hl3
    · exact walk_OrdersB f g h v1 v2 v3 w hf hg hh hWf hWg hWh hT hl1 hl2
  · exact walk_OrdersA f g h v1 v2 v3 w hf hg hh hWf hWg hWh hT hl1
end Go.Proofs.YtggfblodjanfkaaDoor
end
