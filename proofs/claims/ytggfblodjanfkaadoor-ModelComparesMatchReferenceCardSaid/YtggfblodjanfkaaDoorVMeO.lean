/- Packed from the texts MeO. -/
import Derived.Test.YtggfblodjanfkaaDoorVMeK
import Derived.Test.YtggfblodjanfkaaDoorVk6
import Derived.Test.YtggfblodjanfkaaDoorVk9
import Derived.Test.YtggfblodjanfkaaDoorVl9
section
namespace Go.Proofs.YtggfblodjanfkaaDoor
open Go.RowKit
theorem eqA_one (f g : FeedD) : eqA [f] [g] = sameB f g := by
  unfold eqA
  rw [sameA, sameA, Bool.and_true]
  rfl
theorem eqA_self (f : FeedD) : eqA [f] [f] = true := (eqA_iff _ _).2 rfl
theorem eqA_none (f : FeedD) : eqA [f] [] = false := rfl
theorem feed_blk {w : World} {r : Nat} {f : FeedD} {p : Option Addr} {c : Nat} {q : Option Addr} {d : Nat} (hM : MBlk w r #[.slice p f.path.length c, .string f.id, .string f.title, .string f.link, .int .i64 f.upd, .slice q f.ents.length d] 25) (hp : NamAt w p f.path) (he : EntsAt w q f.ents) : FeedsAt w (some ⟨r, 0, none⟩) [f] := by
  intro i hi
  match i, hi with
  | 0, _ => exact ⟨_, p, c, q, d, rfl, ⟨hM.cell 0, hM.cell 1, hM.cell 2, hM.cell 3, hM.cell 4, hM.cell 5⟩, hp, he⟩
theorem feeds_nil (w : World) (p : Option Addr) : FeedsAt w p [] := fun _ hi => absurd hi (Nat.not_lt_zero _)
theorem mblk_far {w : World} {b k o : Nat} {T : TypeId} {cs : Array Value} (h : MBlk w b cs T) (hne : b ≠ k) (v : Value) : MBlk (w.setCell ⟨k, o, none⟩ v) b cs T := by
  unfold MBlk
  rw [Below.heap_setCell _ _ _ _ hne]
  exact h
theorem mblk_one {w : World} {b : Nat} {T : TypeId} {u : Value} (h : MBlk w b #[u] T) (v : Value) : MBlk (w.setCell ⟨b, 0, none⟩ v) b #[v] T := by
  have := heap_setCell_same _ b 0 _ _ v h
  rwa [show (#[u] : Array Value).setIfInBounds 0 v = #[v] from rfl] at this
theorem mblk_new (w : World) (cs : Array Value) (T : TypeId) : MBlk (w.alloc (.cells cs T)) w.heap.size cs T := heap_alloc_new w _
def moC1 : Oper := { dst := some 42, op := Go.Op.buildSlice 31 1 #[(0, Go.Operand.tmp 41)], type := 31, pos := "law.go:70", after := #[{ on := 0, ground := Go.Ground.data }], guard := none }
def moC4 : Oper := { dst := some 45, op := Go.Op.buildSlice 31 1 #[(0, Go.Operand.tmp 44)], type := 31, pos := "law.go:70", after := #[{ on := 3, ground := Go.Ground.data }, { on := 8, ground := Go.Ground.gcOnly Go.Departure.lateStores }], guard := none }
def moC6 : Oper := { dst := some 9, op := Go.Op.alloc 33, type := 0, pos := "law.go:70", after := #[], guard := none }
def moC7 : Oper := { dst := some 10, op := Go.Op.alloc 33, type := 0, pos := "law.go:70", after := #[], guard := none }
def moC8 : Oper := { dst := none, op := Go.Op.store 33 (Go.Operand.tmp 9) (Go.Operand.tmp 43), type := 0, pos := "law.go:70", after := #[{ on := 6, ground := Go.Ground.data }, { on := 2, ground := Go.Ground.data }, { on := 0, ground := Go.Ground.phase }, { on := 1, ground := Go.Ground.phase }, { on := 2, ground := Go.Ground.phase }, { on := 3, ground := Go.Ground.textOnly Go.Departure.lateStores }, { on := 4, ground := Go.Ground.textOnly Go.Departure.lateStores }, { on := 5, ground := Go.Ground.textOnly Go.Departure.lateStores }, { on := 6, ground := Go.Ground.phase }, { on := 7, ground := Go.Ground.phase }], guard := none }
def moC9 : Oper := { dst := none, op := Go.Op.store 33 (Go.Operand.tmp 10) (Go.Operand.tmp 46), type := 0, pos := "law.go:70", after := #[{ on := 7, ground := Go.Ground.data }, { on := 5, ground := Go.Ground.data }, { on := 8, ground := Go.Ground.chain }, { on := 0, ground := Go.Ground.phase }, { on := 1, ground := Go.Ground.phase }, { on := 2, ground := Go.Ground.phase }, { on := 3, ground := Go.Ground.phase }, { on := 4, ground := Go.Ground.phase }, { on := 5, ground := Go.Ground.phase }, { on := 6, ground := Go.Ground.phase }, { on := 7, ground := Go.Ground.phase }, { on := 8, ground := Go.Ground.phase }], guard := none }
set_option maxRecDepth 100000 in
set_option maxHeartbeats 64000000 in
theorem walk_ComparesA (f g : FeedD) (v1 v2 : Value) (w : World) (hf : FeedIs w f v1) (hg : FeedIs w g v2) (hWf : FWf f) (hWg : FWf g) (hT : TabW w) (hl1 : tlF 0 [f] = true) :
    Calls Tryd.prog 3 #[v1, v2] w fun e' w' => e' = .returned (.bool true) ∧ Below w.heap.size w w' := by
  obtain ⟨p1, c1, q1, d1, rfl, hp1, he1⟩ := hf
  have hf : FeedIs w f (.agg #[.slice p1 f.path.length c1, .string f.id, .string f.title, .string f.link, .int .i64 f.upd, .slice q1 f.ents.length d1]) := ⟨p1, c1, q1, d1, rfl, hp1, he1⟩
  obtain ⟨p2, c2, q2, d2, rfl, hp2, he2⟩ := hg
  have hg : FeedIs w g (.agg #[.slice p2 g.path.length c2, .string g.id, .string g.title, .string g.link, .int .i64 g.upd, .slice q2 g.ents.length d2]) := ⟨p2, c2, q2, d2, rfl, hp2, he2⟩
  obtain ⟨W0, hW0⟩ : ∃ W0, W0 = ((w.alloc (.cells #[.slice p1 f.path.length c1, .string f.id, .string f.title, .string f.link, .int .i64 f.upd, .slice q1 f.ents.length d1] 25)).alloc (.cells #[.slice p2 g.path.length c2, .string g.id, .string g.title, .string g.link, .int .i64 g.upd, .slice q2 g.ents.length d2] 25)) := ⟨_, rfl⟩
  have hB0 : Below w.heap.size w W0 := by rw [hW0]; exact (((Below.refl _ _).alloc (by simp) _).alloc (by simp; try omega) _)
  have hX0 : FBox W0 w.heap.size f p1 c1 q1 d1 := by
    have hnn := FBox.new w f p1 c1 q1 d1
    rw [hW0]
    exact (hnn).below ((Below.refl _ _).alloc (Nat.le_refl _) _)
  have hX1 : FBox W0 (w.heap.size + 1) g p2 c2 q2 d2 := by
    have hnn := FBox.new (w.alloc (.cells #[.slice p1 f.path.length c1, .string f.id, .string f.title, .string f.link, .int .i64 f.upd, .slice q1 f.ents.length d1] 25)) g p2 c2 q2 d2
    rw [World.size_alloc] at hnn
    rw [hW0]
    exact hnn
  have hS : FBox W0 w.heap.size f p1 c1 q1 d1 ∧ FBox W0 (w.heap.size + 1) g p2 c2 q2 d2 ∧ True := ⟨hX0, hX1, trivial⟩
  have HSB := Lib.hid (fun (u1 u2 : World) (hb : Below u1.heap.size u1 u2) (hss : FBox u1 w.heap.size f p1 c1 q1 d1 ∧ FBox u1 (w.heap.size + 1) g p2 c2 q2 d2 ∧ True) => (show FBox u2 w.heap.size f p1 c1 q1 d1 ∧ FBox u2 (w.heap.size + 1) g p2 c2 q2 d2 ∧ True from ⟨hss.1.below hb, hss.2.1.below hb, trivial⟩))
  clear hX0 hX1
  have cA := fun wx (hb : Below w.heap.size w wx) => mc_alive wx (TabW_below hT hb)
  have qcA := Lib.hid cA
  have cL1 := fun wx (hb : Below w.heap.size w wx) => law_large f _ wx (hf.below hb) hWf
  have cL2 := fun wx (hb : Below w.heap.size w wx) => law_large g _ wx (hg.below hb) hWg
  have HS := Lib.hid hS
  have HB := Lib.hid hB0
  rw [hl1] at cL1
  have qcL1 := Lib.hid cL1
  clear cL1 cL2 hl1 hS hB0 hT hf hg hWf hWg hp1 he1 hp2 he2 cA
  go_enter Tryd.func3, Tryd.ntmps3
  go_upto_region 1 with fail
  simp only [← hW0]
  clear hW0
  obtain ⟨⟨f00, f01, f02, f03, f04, f05⟩, ⟨f10, f11, f12, f13, f14, f15⟩, -⟩ := id HS.out
  go_wp2_with fail
  refine (qcL1.out _ HB.out).mono ?_
  rintro e1 w1 ⟨rfl, b1⟩
  replace HS := Lib.hid (HSB.out _ _ b1 HS.out)
  replace HB := Lib.hid (HB.out.trans (b1.mono HB.out.size))
  clear b1
  clear f00 f01 f02 f03 f04 f05 f10 f11 f12 f13 f14 f15
  obtain ⟨⟨f00, f01, f02, f03, f04, f05⟩, ⟨f10, f11, f12, f13, f14, f15⟩, -⟩ := id HS.out
  go_wp2_with fail
  refine (qcA.out _ HB.out).mono ?_
  rintro e2 w2 ⟨rfl, b2⟩
  replace HS := Lib.hid (HSB.out _ _ b2 HS.out)
  replace HB := Lib.hid (HB.out.trans (b2.mono HB.out.size))
  clear b2
  clear f00 f01 f02 f03 f04 f05 f10 f11 f12 f13 f14 f15
  obtain ⟨⟨f00, f01, f02, f03, f04, f05⟩, ⟨f10, f11, f12, f13, f14, f15⟩, -⟩ := id HS.out
  go_wp2
  go_ret
  exact ⟨rfl, HB.out⟩
set_option maxRecDepth 100000 in
set_option maxHeartbeats 64000000 in
theorem walk_ComparesB (f g : FeedD) (v1 v2 : Value) (w : World) (hf : FeedIs w f v1) (hg : FeedIs w g v2) (hWf : FWf f) (hWg : FWf g) (hT : TabW w) (hl1 : tlF 0 [f] = false) (hl2 : tlF 0 [g] = true) :
    Calls Tryd.prog 3 #[v1, v2] w fun e' w' => e' = .returned (.bool true) ∧ Below w.heap.size w w' := by
  obtain ⟨p1, c1, q1, d1, rfl, hp1, he1⟩ := hf
  have hf : FeedIs w f (.agg #[.slice p1 f.path.length c1, .string f.id, .string f.title, .string f.link, .int .i64 f.upd, .slice q1 f.ents.length d1]) := ⟨p1, c1, q1, d1, rfl, hp1, he1⟩
  obtain ⟨p2, c2, q2, d2, rfl, hp2, he2⟩ := hg
  have hg : FeedIs w g (.agg #[.slice p2 g.path.length c2, .string g.id, .string g.title, .string g.link, .int .i64 g.upd, .slice q2 g.ents.length d2]) := ⟨p2, c2, q2, d2, rfl, hp2, he2⟩
  obtain ⟨W0, hW0⟩ : ∃ W0, W0 = ((w.alloc (.cells #[.slice p1 f.path.length c1, .string f.id, .string f.title, .string f.link, .int .i64 f.upd, .slice q1 f.ents.length d1] 25)).alloc (.cells #[.slice p2 g.path.length c2, .string g.id, .string g.title, .string g.link, .int .i64 g.upd, .slice q2 g.ents.length d2] 25)) := ⟨_, rfl⟩
  have hB0 : Below w.heap.size w W0 := by rw [hW0]; exact (((Below.refl _ _).alloc (by simp) _).alloc (by simp; try omega) _)
  have hX0 : FBox W0 w.heap.size f p1 c1 q1 d1 := by
    have hnn := FBox.new w f p1 c1 q1 d1
    rw [hW0]
    exact (hnn).below ((Below.refl _ _).alloc (Nat.le_refl _) _)
  have hX1 : FBox W0 (w.heap.size + 1) g p2 c2 q2 d2 := by
    have hnn := FBox.new (w.alloc (.cells #[.slice p1 f.path.length c1, .string f.id, .string f.title, .string f.link, .int .i64 f.upd, .slice q1 f.ents.length d1] 25)) g p2 c2 q2 d2
    rw [World.size_alloc] at hnn
    rw [hW0]
    exact hnn
  have hS : FBox W0 w.heap.size f p1 c1 q1 d1 ∧ FBox W0 (w.heap.size + 1) g p2 c2 q2 d2 ∧ True := ⟨hX0, hX1, trivial⟩
  have HSB := Lib.hid (fun (u1 u2 : World) (hb : Below u1.heap.size u1 u2) (hss : FBox u1 w.heap.size f p1 c1 q1 d1 ∧ FBox u1 (w.heap.size + 1) g p2 c2 q2 d2 ∧ True) => (show FBox u2 w.heap.size f p1 c1 q1 d1 ∧ FBox u2 (w.heap.size + 1) g p2 c2 q2 d2 ∧ True from ⟨hss.1.below hb, hss.2.1.below hb, trivial⟩))
  clear hX0 hX1
  have cA := fun wx (hb : Below w.heap.size w wx) => mc_alive wx (TabW_below hT hb)
  have qcA := Lib.hid cA
  have cL1 := fun wx (hb : Below w.heap.size w wx) => law_large f _ wx (hf.below hb) hWf
  have cL2 := fun wx (hb : Below w.heap.size w wx) => law_large g _ wx (hg.below hb) hWg
  have HS := Lib.hid hS
  have HB := Lib.hid hB0
  rw [hl1] at cL1
  have qcL1 := Lib.hid cL1
  rw [hl2] at cL2
  have qcL2 := Lib.hid cL2
  clear cL1 cL2 hl1 hl2 hS hB0 hT hf hg hWf hWg hp1 he1 hp2 he2 cA
  go_enter Tryd.func3, Tryd.ntmps3
  go_upto_region 1 with fail
  simp only [← hW0]
  clear hW0
  obtain ⟨⟨f00, f01, f02, f03, f04, f05⟩, ⟨f10, f11, f12, f13, f14, f15⟩, -⟩ := id HS.out
  go_wp2_with fail
  refine (qcL1.out _ HB.out).mono ?_
  rintro e1 w1 ⟨rfl, b1⟩
  replace HS := Lib.hid (HSB.out _ _ b1 HS.out)
  replace HB := Lib.hid (HB.out.trans (b1.mono HB.out.size))
  clear b1
  clear f00 f01 f02 f03 f04 f05 f10 f11 f12 f13 f14 f15
  obtain ⟨⟨f00, f01, f02, f03, f04, f05⟩, ⟨f10, f11, f12, f13, f14, f15⟩, -⟩ := id HS.out
  go_wp2_with fail
  refine (qcL2.out _ HB.out).mono ?_
  rintro e2 w2 ⟨rfl, b2⟩
  replace HS := Lib.hid (HSB.out _ _ b2 HS.out)
  replace HB := Lib.hid (HB.out.trans (b2.mono HB.out.size))
  clear b2
  clear f00 f01 f02 f03 f04 f05 f10 f11 f12 f13 f14 f15
  obtain ⟨⟨f00, f01, f02, f03, f04, f05⟩, ⟨f10, f11, f12, f13, f14, f15⟩, -⟩ := id HS.out
  go_wp2_with fail
  refine (qcA.out _ HB.out).mono ?_
  rintro e3 w3 ⟨rfl, b3⟩
  replace HS := Lib.hid (HSB.out _ _ b3 HS.out)
  replace HB := Lib.hid (HB.out.trans (b3.mono HB.out.size))
  clear b3
  clear f00 f01 f02 f03 f04 f05 f10 f11 f12 f13 f14 f15
  obtain ⟨⟨f00, f01, f02, f03, f04, f05⟩, ⟨f10, f11, f12, f13, f14, f15⟩, -⟩ := id HS.out
  go_wp2
  go_ret
  exact ⟨rfl, HB.out⟩
set_option maxRecDepth 100000 in
set_option maxHeartbeats 64000000 in
theorem walk_ComparesC (f g : FeedD) (v1 v2 : Value) (w : World) (hf : FeedIs w f v1) (hg : FeedIs w g v2) (hWf : FWf f) (hWg : FWf g) (hT : TabW w) (hl1 : tlF 0 [f] = false) (hl2 : tlF 0 [g] = false) :
    Calls Tryd.prog 3 #[v1, v2] w fun e' w' => e' = .returned (.bool true) ∧ Below w.heap.size w w' := by
  obtain ⟨p1, c1, q1, d1, rfl, hp1, he1⟩ := hf
  have hf : FeedIs w f (.agg #[.slice p1 f.path.length c1, .string f.id, .string f.title, .string f.link, .int .i64 f.upd, .slice q1 f.ents.length d1]) := ⟨p1, c1, q1, d1, rfl, hp1, he1⟩
  obtain ⟨p2, c2, q2, d2, rfl, hp2, he2⟩ := hg
  have hg : FeedIs w g (.agg #[.slice p2 g.path.length c2, .string g.id, .string g.title, .string g.link, .int .i64 g.upd, .slice q2 g.ents.length d2]) := ⟨p2, c2, q2, d2, rfl, hp2, he2⟩
  obtain ⟨W0, hW0⟩ : ∃ W0, W0 = ((w.alloc (.cells #[.slice p1 f.path.length c1, .string f.id, .string f.title, .string f.link, .int .i64 f.upd, .slice q1 f.ents.length d1] 25)).alloc (.cells #[.slice p2 g.path.length c2, .string g.id, .string g.title, .string g.link, .int .i64 g.upd, .slice q2 g.ents.length d2] 25)) := ⟨_, rfl⟩
  have hB0 : Below w.heap.size w W0 := by rw [hW0]; exact (((Below.refl _ _).alloc (by simp) _).alloc (by simp; try omega) _)
  have hX0 : FBox W0 w.heap.size f p1 c1 q1 d1 := by
    have hnn := FBox.new w f p1 c1 q1 d1
    rw [hW0]
    exact (hnn).below ((Below.refl _ _).alloc (Nat.le_refl _) _)
  have hX1 : FBox W0 (w.heap.size + 1) g p2 c2 q2 d2 := by
    have hnn := FBox.new (w.alloc (.cells #[.slice p1 f.path.length c1, .string f.id, .string f.title, .string f.link, .int .i64 f.upd, .slice q1 f.ents.length d1] 25)) g p2 c2 q2 d2
    rw [World.size_alloc] at hnn
    rw [hW0]
    exact hnn
  have hS : FBox W0 w.heap.size f p1 c1 q1 d1 ∧ FBox W0 (w.heap.size + 1) g p2 c2 q2 d2 ∧ True := ⟨hX0, hX1, trivial⟩
  have HSB := Lib.hid (fun (u1 u2 : World) (hb : Below u1.heap.size u1 u2) (hss : FBox u1 w.heap.size f p1 c1 q1 d1 ∧ FBox u1 (w.heap.size + 1) g p2 c2 q2 d2 ∧ True) => (show FBox u2 w.heap.size f p1 c1 q1 d1 ∧ FBox u2 (w.heap.size + 1) g p2 c2 q2 d2 ∧ True from ⟨hss.1.below hb, hss.2.1.below hb, trivial⟩))
  clear hX0 hX1
  have cA := fun wx (hb : Below w.heap.size w wx) => mc_alive wx (TabW_below hT hb)
  have qcA := Lib.hid cA
  have cL1 := fun wx (hb : Below w.heap.size w wx) => law_large f _ wx (hf.below hb) hWf
  have cL2 := fun wx (hb : Below w.heap.size w wx) => law_large g _ wx (hg.below hb) hWg
  have HS := Lib.hid hS
  have HB := Lib.hid hB0
  rw [hl1] at cL1
  have qcL1 := Lib.hid cL1
  rw [hl2] at cL2
  have qcL2 := Lib.hid cL2
  have hm1 := (tlF_small [f] 0 hl1 (by omega)).2 f (List.mem_singleton.2 rfl)
  have hm2 := (tlF_small [g] 0 hl2 (by omega)).2 g (List.mem_singleton.2 rfl)
  have n1 := hm1.plen
  have n2 := hm2.plen
  have n3 := hm1.elen
  have n4 := hm2.elen
  have n3z : (f.ents.length : Int) ≤ 5000 := by omega
  have n4z : (g.ents.length : Int) ≤ 5000 := by omega
  have k1 := fun wx (hb : Below w.heap.size w wx) => mc_paths f.path g.path p1 c1 p2 c2 wx (hp1.below hb) (hp2.below hb) (by omega) (by omega)
  have k2 := fun wx (hb : Below w.heap.size w wx) => mref_paths f.path g.path p1 c1 p2 c2 wx (hp1.below hb) (hp2.below hb) (by omega) (by omega)
  have k3 := fun wx (hb : Below w.heap.size w wx) => mc_cmpF f g _ _ wx (hf.below hb) (hg.below hb) (by omega) (by omega)
  have k4 := fun wx (hb : Below w.heap.size w wx) => mref_cmpF f g _ _ wx (hf.below hb) (hg.below hb) (by omega) (by omega)
  have k5 := fun wx (hb : Below w.heap.size w wx) => mref_Same f g _ _ wx (hf.below hb) (hg.below hb) (by omega) (by omega) (by omega)
  have hsf : ∀ x ∈ [f], x.path.length ≤ 100000000 ∧ x.ents.length ≤ 100000000 := fun x hx => by rw [List.mem_singleton.1 hx]; omega
  have k6 := fun (rA rB : Nat) wx (h1 : FeedsAt wx (some ⟨rA, 0, none⟩) [f]) (h2 : FeedsAt wx (some ⟨rB, 0, none⟩) [g]) => mc_Equal [f] [g] _ _ 1 1 wx h1 h2 hsf (by simp)
  have k7 := fun (rA : Nat) wx (h1 : FeedsAt wx (some ⟨rA, 0, none⟩) [f]) => mc_Equal [f] [f] _ _ 1 1 wx h1 h1 hsf (by simp)
  have k8 := fun (rA : Nat) wx (h1 : FeedsAt wx (some ⟨rA, 0, none⟩) [f]) => mc_Equal [f] [] _ none 1 0 wx h1 (feeds_nil wx none) hsf (by simp)
  rw [eqA_one] at k6
  rw [eqA_self] at k7
  rw [eqA_none] at k8
  dsimp only [List.length_cons, List.length_nil] at k6 k7 k8
  have hN1 := Lib.hid (fun wx (hb : Below w.heap.size w wx) => (hp1.below hb : NamAt wx p1 f.path))
  have hE1 := Lib.hid (fun wx (hb : Below w.heap.size w wx) => (he1.below hb : EntsAt wx q1 f.ents))
  have hN2 := Lib.hid (fun wx (hb : Below w.heap.size w wx) => (hp2.below hb : NamAt wx p2 g.path))
  have hE2 := Lib.hid (fun wx (hb : Below w.heap.size w wx) => (he2.below hb : EntsAt wx q2 g.ents))
  generalize cmpP f.path g.path = P at *
  generalize cmpF f g = X at *
  generalize sameB f g = B at *
  have qk1 := Lib.hid k1
  have qk2 := Lib.hid k2
  have qk3 := Lib.hid k3
  have qk4 := Lib.hid k4
  have qk5 := Lib.hid k5
  have qk6 := Lib.hid k6
  have qk7 := Lib.hid k7
  have qk8 := Lib.hid k8
  clear k1 k2 k3 k4 k5 k6 k7 k8 hsf hm1 hm2 n1 n2 hl1 hl2 cL1 cL2 hS hB0 hT hf hg hWf hWg hp1 he1 hp2 he2 cA
  go_enter Tryd.func3, Tryd.ntmps3
  go_upto_region 1 with fail
  simp only [← hW0]
  clear hW0
  obtain ⟨⟨f00, f01, f02, f03, f04, f05⟩, ⟨f10, f11, f12, f13, f14, f15⟩, -⟩ := id HS.out
  go_wp2_with fail
  refine (qcL1.out _ HB.out).mono ?_
  rintro e1 w1 ⟨rfl, b1⟩
  replace HS := Lib.hid (HSB.out _ _ b1 HS.out)
  replace HB := Lib.hid (HB.out.trans (b1.mono HB.out.size))
  clear b1
  clear f00 f01 f02 f03 f04 f05 f10 f11 f12 f13 f14 f15
  obtain ⟨⟨f00, f01, f02, f03, f04, f05⟩, ⟨f10, f11, f12, f13, f14, f15⟩, -⟩ := id HS.out
  go_wp2_with fail
  refine (qcL2.out _ HB.out).mono ?_
  rintro e2 w2 ⟨rfl, b2⟩
  replace HS := Lib.hid (HSB.out _ _ b2 HS.out)
  replace HB := Lib.hid (HB.out.trans (b2.mono HB.out.size))
  clear b2
  clear f00 f01 f02 f03 f04 f05 f10 f11 f12 f13 f14 f15
  clear qcL1 qcL2
  obtain ⟨⟨f00, f01, f02, f03, f04, f05⟩, ⟨f10, f11, f12, f13, f14, f15⟩, -⟩ := id HS.out
  go_wp2
  go_loopw [21] (fun q wr => ∃ i : Nat, i ≤ f.ents.length ∧ q = .int .i64 (i : Int) ∧ Below w2.heap.size w2 wr) (fun q _ => f.ents.length - (RowKit.intOf q).toNat)
  case atStart => exact ⟨0, Nat.zero_le _, rfl, Below.refl _ _⟩
  case round =>
    clear f00 f01 f02 f03 f04 f05 f10 f11 f12 f13 f14 f15
    obtain ⟨i, hi, rfl, hbo⟩ := hrel
    obtain ⟨wo, rfl⟩ : ∃ wo, wo = wr := ⟨_, rfl⟩
    obtain ⟨⟨f00, f01, f02, f03, f04, f05⟩, ⟨f10, f11, f12, f13, f14, f15⟩, -⟩ := HSB.out _ _ hbo HS.out
    have HBo := Lib.hid (HB.out.trans (hbo.mono HB.out.size))
    by_cases hlt : i < f.ents.length
    · have hiz : (i : Int) < (f.ents.length : Int) := by omega
      obtain ⟨a, rfl, a0, a1, a2, a3, a4⟩ := hE1.out wo HBo.out i hlt
      obtain ⟨x, hx⟩ : ∃ x, f.ents[i] = x := ⟨_, rfl⟩
      rw [hx] at a0 a1 a2 a3 a4
      obtain ⟨aa, haa⟩ : ∃ aa, a.add (i * 5) = aa := ⟨_, rfl⟩
      rw [haa] at a0 a1 a2 a3 a4
      simp only [Addr.add, Nat.reduceEqDiff, ↓reduceIte] at a1 a2 a3 a4
      obtain ⟨W5, hW5⟩ : ∃ W5, W5 = wo.alloc (.cells #[.string x.id, .string x.title, .string x.link, .string x.content, .int .i64 x.upd] 29) := ⟨_, rfl⟩
      have hb5 : Below wo.heap.size wo W5 := by rw [hW5]; exact (Below.refl _ _).alloc (Nat.le_refl _) _
      have hX5 : EBox W5 wo.heap.size x := by rw [hW5]; exact EBox.new wo x
      have HX5 := Lib.hid hX5
      have HS5 := Lib.hid (HSB.out _ _ (hbo.trans (hb5.mono hbo.size)) HS.out)
      have HB5 := Lib.hid (HBo.out.trans (hb5.mono HBo.out.size))
      have HO5 := Lib.hid (hbo.trans (hb5.mono hbo.size))
      clear hx hbo hb5 hX5
      go_upto_region 6 with fail
      simp only [← hW5]
      clear hW5 a0 a1 a2 a3 a4 f00 f01 f02 f03 f04 f05 f10 f11 f12 f13 f14 f15
      obtain ⟨⟨f00, f01, f02, f03, f04, f05⟩, ⟨f10, f11, f12, f13, f14, f15⟩, -⟩ := id HS5.out
      generalize wo.heap.size = bx at *
      go_wp2
      go_loopw [28] (fun q wr => ∃ j : Nat, j ≤ g.ents.length ∧ q = .int .i64 (j : Int) ∧ Below W5.heap.size W5 wr) (fun q _ => g.ents.length - (RowKit.intOf q).toNat)
      case atStart => exact ⟨0, Nat.zero_le _, rfl, Below.refl _ _⟩
      case round =>
        clear f00 f01 f02 f03 f04 f05 f10 f11 f12 f13 f14 f15
        obtain ⟨j, hj, rfl, hbi⟩ := hrel
        by_cases hjl : j < g.ents.length
        · have hjz : (j : Int) < (g.ents.length : Int) := by omega
          have HBi := Lib.hid (HB5.out.trans (hbi.mono HB5.out.size))
          obtain ⟨b, rfl, b0, b1, b2, b3, b4⟩ := hE2.out wr HBi.out j hjl
          obtain ⟨y, hy⟩ : ∃ y, g.ents[j] = y := ⟨_, rfl⟩
          rw [hy] at b0 b1 b2 b3 b4
          obtain ⟨bb, hbb⟩ : ∃ bb, b.add (j * 5) = bb := ⟨_, rfl⟩
          rw [hbb] at b0 b1 b2 b3 b4
          simp only [Addr.add, Nat.reduceEqDiff, ↓reduceIte] at b1 b2 b3 b4
          obtain ⟨W6, hW6⟩ : ∃ W6, W6 = wr.alloc (.cells #[.string y.id, .string y.title, .string y.link, .string y.content, .int .i64 y.upd] 29) := ⟨_, rfl⟩
          have hb6 : Below wr.heap.size wr W6 := by rw [hW6]; exact (Below.refl _ _).alloc (Nat.le_refl _) _
          have hY6 : EBox W6 wr.heap.size y := by rw [hW6]; exact EBox.new wr y
          have hX6 : EBox W6 bx x := HX5.out.below (hbi.trans (hb6.mono hbi.size))
          have hbW := hbi.trans (hb6.mono hbi.size)
          have HBW := Lib.hid hbW
          have j1 := fun wx => mc_cmpE x y wx
          have j2 := fun wx => mref_cmpE x y wx
          unfold EntV at j1 j2
          generalize cmpE x y = C at *
          have qj1 := Lib.hid j1
          have qj2 := Lib.hid j2
          clear hy hbi hb6 hbW j1 j2
          go_upto_region 9 with fail
          simp only [← hW6]
          clear hW6 b0 b1 b2 b3 b4
          generalize wr.heap.size = ny at *
          have HS' := Lib.hid (show EBox W6 bx x ∧ EBox W6 ny y ∧ True from ⟨hX6, hY6, trivial⟩)
          have HSI := Lib.hid (fun (u1 u2 : World) (hb : Below u1.heap.size u1 u2) (hss : EBox u1 bx x ∧ EBox u1 ny y ∧ True) => (show EBox u2 bx x ∧ EBox u2 ny y ∧ True from ⟨hss.1.below hb, hss.2.1.below hb, trivial⟩))
          clear hX6 hY6
          go_wp2
          have SD : EBox W6.drew bx x ∧ EBox W6.drew ny y ∧ True := HS'.out
          have HD := Lib.hid (show Below W5.heap.size W5 W6.drew from HBW.out.drew)
          have hcc : (C == C) = true := by simp
          refine wp_region_late (S := fun w' => EBox w' bx x ∧ EBox w' ny y ∧ True) (D := []) (by kernel_rfl) ?_
          refine anyL_take (i := 0) (oi := { dst := some 32, op := Go.Op.load 29 (Go.Operand.tmp 6), type := 29, pos := "law.go:65", after := #[], guard := none }) (v := ?_) rfl (by decide) (by kernel_rfl) (by kernel_rfl) (by kernel_rfl) (by kernel_rfl) (fun _ _ _ h => h) (Or.inl ⟨by rfl, ?_⟩) SD ?_
          rotate_left
          · intro wz hSz
            obtain ⟨⟨z0, z1, z2, z3, z4⟩, ⟨z5, z6, z7, z8, z9⟩, -⟩ := hSz
            go_simp
            (try with_reducible rfl)
          try simp only [Act.put, List.setIfInBounds_toArray, List.set_cons_zero, List.set_cons_succ]
          refine anyL_take (i := 1) (oi := { dst := some 33, op := Go.Op.load 29 (Go.Operand.tmp 8), type := 29, pos := "law.go:65", after := #[], guard := none }) (v := ?_) rfl (by decide) (by kernel_rfl) (by kernel_rfl) (by kernel_rfl) (by kernel_rfl) (fun _ _ _ h => h) (Or.inl ⟨by rfl, ?_⟩) SD ?_
          rotate_left
          · intro wz hSz
            obtain ⟨⟨z0, z1, z2, z3, z4⟩, ⟨z5, z6, z7, z8, z9⟩, -⟩ := hSz
            go_simp
            (try with_reducible rfl)
          try simp only [Act.put, List.setIfInBounds_toArray, List.set_cons_zero, List.set_cons_succ]
          refine anyL_take (i := 3) (oi := { dst := some 35, op := Go.Op.load 29 (Go.Operand.tmp 6), type := 29, pos := "law.go:65", after := #[], guard := none }) (v := ?_) rfl (by decide) (by kernel_rfl) (by kernel_rfl) (by kernel_rfl) (by kernel_rfl) (fun _ _ _ h => h) (Or.inl ⟨by rfl, ?_⟩) SD ?_
          rotate_left
          · intro wz hSz
            obtain ⟨⟨z0, z1, z2, z3, z4⟩, ⟨z5, z6, z7, z8, z9⟩, -⟩ := hSz
            go_simp
            (try with_reducible rfl)
          try simp only [Act.put, List.setIfInBounds_toArray, List.set_cons_zero, List.set_cons_succ]
          refine anyL_take (i := 4) (oi := { dst := some 36, op := Go.Op.load 29 (Go.Operand.tmp 8), type := 29, pos := "law.go:65", after := #[], guard := none }) (v := ?_) rfl (by decide) (by kernel_rfl) (by kernel_rfl) (by kernel_rfl) (by kernel_rfl) (fun _ _ _ h => h) (Or.inl ⟨by rfl, ?_⟩) SD ?_
          rotate_left
          · intro wz hSz
            obtain ⟨⟨z0, z1, z2, z3, z4⟩, ⟨z5, z6, z7, z8, z9⟩, -⟩ := hSz
            go_simp
            (try with_reducible rfl)
          try simp only [Act.put, List.setIfInBounds_toArray, List.set_cons_zero, List.set_cons_succ]
          refine anyL_ready (rs := [2]) (by kernel_rfl) (by simp) ?_
          refine AllL.cons (o := { dst := some 34, op := Go.Op.call { callee := Go.Callee.value (Go.Operand.func 9), args := #[Go.Operand.tmp 32, Go.Operand.tmp 33], argTypes := #[29, 29] }, type := 3, pos := "law.go:65", after := #[{ on := 0, ground := Go.Ground.data }, { on := 1, ground := Go.Ground.data }], guard := none }) rfl (fun K' hK => ?_) AllL.nil
          rw [if_pos (by rfl)]
          go_simp
          go_at_call 9
          refine (qj1.out _).mono ?_
          rintro e41 w41 ⟨rfl, b41⟩
          have S41 := HSI.out _ _ b41 SD
          have HB41 := Lib.hid (HD.out.trans (b41.mono HD.out.size))
          refine hK _ _ S41 ?_
          clear hK K' b41 SD
          try simp only [Act.put, List.setIfInBounds_toArray, List.set_cons_zero, List.set_cons_succ]
          refine anyL_ready (rs := [5]) (by kernel_rfl) (by simp) ?_
          refine AllL.cons (o := { dst := some 37, op := Go.Op.call { callee := Go.Callee.value (Go.Operand.func 10), args := #[Go.Operand.tmp 35, Go.Operand.tmp 36], argTypes := #[29, 29] }, type := 3, pos := "law.go:65", after := #[{ on := 3, ground := Go.Ground.data }, { on := 4, ground := Go.Ground.data }, { on := 2, ground := Go.Ground.chain }], guard := none }) rfl (fun K' hK => ?_) AllL.nil
          rw [if_pos (by rfl)]
          go_simp
          go_at_call 10
          refine (qj2.out _).mono ?_
          rintro e42 w42 ⟨rfl, b42⟩
          have S42 := HSI.out _ _ b42 S41
          have HB42 := Lib.hid (HB41.out.trans (b42.mono HB41.out.size))
          refine hK _ _ S42 ?_
          clear hK K' b42 S41
          try simp only [Act.put, List.setIfInBounds_toArray, List.set_cons_zero, List.set_cons_succ]
          refine anyL_take (i := 6) (oi := { dst := some 38, op := Go.Op.binOp Go.BinOp.neq 3 (Go.Operand.tmp 34) (Go.Operand.tmp 37) 3, type := 4, pos := "law.go:65", after := #[{ on := 2, ground := Go.Ground.data }, { on := 5, ground := Go.Ground.data }], guard := none }) (v := ?_) rfl (by decide) (by kernel_rfl) (by kernel_rfl) (by kernel_rfl) (by kernel_rfl) (fun _ _ _ h => h) (Or.inl ⟨by rfl, ?_⟩) S42 ?_
          rotate_left
          · intro wz hSz
            skip
            go_simp
            (try with_reducible rfl)
          try simp only [Act.put, List.setIfInBounds_toArray, List.set_cons_zero, List.set_cons_succ]
          refine anyL_done (by kernel_rfl) ?_ _
          clear S42
          go_wp2
          go_roundw
          case rel => exact ⟨j + 1, by omega, by go_num, HB42.out⟩
          case measure => simp [RowKit.intOf]; omega
        · obtain rfl : j = g.ents.length := by omega
          have hjz : ¬ (g.ents.length : Int) < (g.ents.length : Int) := by omega
          have HBi := Lib.hid hbi
          clear hbi
          go_wp2
          go_roundw
          case rel => exact ⟨i + 1, by omega, by go_num, HO5.out.trans (HBi.out.mono HO5.out.size)⟩
          case measure => simp [RowKit.intOf]; omega
    · obtain rfl : i = f.ents.length := by omega
      have hiz : ¬ (f.ents.length : Int) < (f.ents.length : Int) := by omega
      have HS3 := Lib.hid (HSB.out _ _ hbo HS.out)
      clear hbo HS HB
      go_upto_region 13 with fail
      go_cut [9, 10] (fun u v wx => ∃ bA bB rA rB : Nat, u = .pointer (some ⟨bA, 0, none⟩) ∧ v = .pointer (some ⟨bB, 0, none⟩) ∧ MBlk wx bA #[.slice (some ⟨rA, 0, none⟩) 1 1] 33 ∧ MBlk wx bB #[.slice (some ⟨rB, 0, none⟩) 1 1] 33 ∧ MBlk wx rA #[.slice p1 f.path.length c1, .string f.id, .string f.title, .string f.link, .int .i64 f.upd, .slice q1 f.ents.length d1] 25 ∧ MBlk wx rB #[.slice p2 g.path.length c2, .string g.id, .string g.title, .string g.link, .int .i64 g.upd, .slice q2 g.ents.length d2] 25 ∧ (FBox wx w.heap.size f p1 c1 q1 d1 ∧ FBox wx (w.heap.size + 1) g p2 c2 q2 d2 ∧ True) ∧ Below w.heap.size w wx)
      case first =>
        clear qk1 qk2 qk3 qk4 qk5 qk6 qk7 qk8 qcA
        go_wp2
        have SD : FBox wo.drew w.heap.size f p1 c1 q1 d1 ∧ FBox wo.drew (w.heap.size + 1) g p2 c2 q2 d2 ∧ True := HS3.out
        have HB := Lib.hid (show Below w.heap.size w wo.drew from HBo.out.drew)
        clear HS3 HBo f00 f01 f02 f03 f04 f05 f10 f11 f12 f13 f14 f15
        refine wp_region_late (S := fun w' => FBox w' w.heap.size f p1 c1 q1 d1 ∧ FBox w' (w.heap.size + 1) g p2 c2 q2 d2 ∧ True) (D := []) (by kernel_rfl) ?_
        generalize wo.drew = Wd at *
        refine anyL_take (i := 0) (oi := { dst := some 41, op := Go.Op.load 25 (Go.Operand.tmp 2), type := 25, pos := "law.go:70", after := #[], guard := none }) (v := ?_) rfl (by decide) (by kernel_rfl) (by kernel_rfl) (by kernel_rfl) (by kernel_rfl) (fun _ _ _ h => h) (Or.inl ⟨by rfl, ?_⟩) SD ?_
        rotate_left
        · intro wz hSz
          obtain ⟨⟨z0, z1, z2, z3, z4, z5⟩, ⟨z6, z7, z8, z9, z10, z11⟩, -⟩ := hSz
          go_simp
          (try with_reducible rfl)
        try simp only [Act.put, List.setIfInBounds_toArray, List.set_cons_zero, List.set_cons_succ]
        refine anyL_take (i := 3) (oi := { dst := some 44, op := Go.Op.load 25 (Go.Operand.tmp 3), type := 25, pos := "law.go:70", after := #[{ on := 8, ground := Go.Ground.gcOnly Go.Departure.lateStores }], guard := none }) (v := ?_) rfl (by decide) (by kernel_rfl) (by kernel_rfl) (by kernel_rfl) (by kernel_rfl) (fun _ _ _ h => h) (Or.inl ⟨by rfl, ?_⟩) SD ?_
        rotate_left
        · intro wz hSz
          obtain ⟨⟨z0, z1, z2, z3, z4, z5⟩, ⟨z6, z7, z8, z9, z10, z11⟩, -⟩ := hSz
          go_simp
          (try with_reducible rfl)
        try simp only [Act.put, List.setIfInBounds_toArray, List.set_cons_zero, List.set_cons_succ]
        have SD0 := SD
        have D0 := Below.refl Wd.heap.size Wd
        clear SD
        refine anyL_ready (rs := [1, 4, 6, 7]) (by kernel_rfl) (by simp) ?_
        refine AllL.cons (o := moC1) rfl (fun K' hK => ?_) (AllL.cons (o := moC4) rfl (fun K' hK => ?_) (AllL.cons (o := moC6) rfl (fun K' hK => ?_) (AllL.cons (o := moC7) rfl (fun K' hK => ?_) AllL.nil)))
        · rw [if_pos (by rfl)]
          unfold moC1
          go_simp
          obtain ⟨V1, hV1⟩ : ∃ V, V = Wd.alloc (.cells #[.slice p1 f.path.length c1, .string f.id, .string f.title, .string f.link, .int .i64 f.upd, .slice q1 f.ents.length d1] 25) := ⟨_, rfl⟩
          obtain ⟨rA, hrA⟩ : ∃ n, n = Wd.heap.size := ⟨_, rfl⟩
          have bb : Below Wd.heap.size Wd V1 := by rw [hV1]; exact (Below.refl _ _).alloc (Nat.le_refl _) _
          have M1_rA : MBlk V1 rA #[.slice p1 f.path.length c1, .string f.id, .string f.title, .string f.link, .int .i64 f.upd, .slice q1 f.ents.length d1] 25 := by rw [hV1, hrA]; exact mblk_new _ _ _
          have D1 : Below Wd.heap.size Wd V1 := D0.trans (bb.mono D0.size)
          have GrA : Wd.heap.size ≤ rA := by rw [hrA]; exact D0.size
          have SD1 := HSB.out _ _ D1 SD0
          simp only [← hV1, ← hrA]
          refine hK _ _ SD1 ?_
          clear hK K' hV1 hrA bb D0
          try simp only [Act.put, List.setIfInBounds_toArray, List.set_cons_zero, List.set_cons_succ]
          refine anyL_take (i := 2) (oi := { dst := some 43, op := Go.Op.build 33 #[(0, Go.Operand.tmp 42)], type := 33, pos := "law.go:70", after := #[{ on := 1, ground := Go.Ground.data }], guard := none }) (v := ?_) rfl (by decide) (by kernel_rfl) (by kernel_rfl) (by kernel_rfl) (by kernel_rfl) (fun _ _ _ h => h) (Or.inl ⟨by rfl, ?_⟩) SD1 ?_
          rotate_left
          · intro wz hSz
            skip
            go_simp
            (try with_reducible rfl)
          try simp only [Act.put, List.setIfInBounds_toArray, List.set_cons_zero, List.set_cons_succ]
          refine anyL_ready (rs := [4, 6, 7]) (by kernel_rfl) (by simp) ?_
          refine AllL.cons (o := moC4) rfl (fun K' hK => ?_) (AllL.cons (o := moC6) rfl (fun K' hK => ?_) (AllL.cons (o := moC7) rfl (fun K' hK => ?_) AllL.nil))
          · rw [if_pos (by rfl)]
            unfold moC4
            go_simp
            obtain ⟨V2, hV2⟩ : ∃ V, V = V1.alloc (.cells #[.slice p2 g.path.length c2, .string g.id, .string g.title, .string g.link, .int .i64 g.upd, .slice q2 g.ents.length d2] 25) := ⟨_, rfl⟩
            obtain ⟨rB, hrB⟩ : ∃ n, n = V1.heap.size := ⟨_, rfl⟩
            have bb : Below V1.heap.size V1 V2 := by rw [hV2]; exact (Below.refl _ _).alloc (Nat.le_refl _) _
            have M2_rB : MBlk V2 rB #[.slice p2 g.path.length c2, .string g.id, .string g.title, .string g.link, .int .i64 g.upd, .slice q2 g.ents.length d2] 25 := by rw [hV2, hrB]; exact mblk_new _ _ _
            have M2_rA := M1_rA.more bb
            have NrArB : rA ≠ rB := by have := M1_rA.lt; omega
            have D2 : Below Wd.heap.size Wd V2 := D1.trans (bb.mono D1.size)
            have GrB : Wd.heap.size ≤ rB := by rw [hrB]; exact D1.size
            have SD2 := HSB.out _ _ D2 SD0
            simp only [← hV2, ← hrB]
            refine hK _ _ SD2 ?_
            clear hK K' hV2 hrB bb D1 SD1 M1_rA
            try simp only [Act.put, List.setIfInBounds_toArray, List.set_cons_zero, List.set_cons_succ]
            refine anyL_take (i := 5) (oi := { dst := some 46, op := Go.Op.build 33 #[(0, Go.Operand.tmp 45)], type := 33, pos := "law.go:70", after := #[{ on := 4, ground := Go.Ground.data }, { on := 8, ground := Go.Ground.gcOnly Go.Departure.lateStores }], guard := none }) (v := ?_) rfl (by decide) (by kernel_rfl) (by kernel_rfl) (by kernel_rfl) (by kernel_rfl) (fun _ _ _ h => h) (Or.inl ⟨by rfl, ?_⟩) SD2 ?_
            rotate_left
            · intro wz hSz
              skip
              go_simp
              (try with_reducible rfl)
            try simp only [Act.put, List.setIfInBounds_toArray, List.set_cons_zero, List.set_cons_succ]
            refine anyL_ready (rs := [6, 7]) (by kernel_rfl) (by simp) ?_
            refine AllL.cons (o := moC6) rfl (fun K' hK => ?_) (AllL.cons (o := moC7) rfl (fun K' hK => ?_) AllL.nil)
            · rw [if_pos (by rfl)]
              unfold moC6
              go_simp
              obtain ⟨V3, hV3⟩ : ∃ V, V = V2.alloc (.cells #[.slice none 0 0] 33) := ⟨_, rfl⟩
              obtain ⟨bA, hbA⟩ : ∃ n, n = V2.heap.size := ⟨_, rfl⟩
              have bb : Below V2.heap.size V2 V3 := by rw [hV3]; exact (Below.refl _ _).alloc (Nat.le_refl _) _
              have M3_bA : MBlk V3 bA #[.slice none 0 0] 33 := by rw [hV3, hbA]; exact mblk_new _ _ _
              have M3_rA := M2_rA.more bb
              have NrAbA : rA ≠ bA := by have := M2_rA.lt; omega
              have M3_rB := M2_rB.more bb
              have NrBbA : rB ≠ bA := by have := M2_rB.lt; omega
              have D3 : Below Wd.heap.size Wd V3 := D2.trans (bb.mono D2.size)
              have GbA : Wd.heap.size ≤ bA := by rw [hbA]; exact D2.size
              have SD3 := HSB.out _ _ D3 SD0
              simp only [← hV3, ← hbA]
              refine hK _ _ SD3 ?_
              clear hK K' hV3 hbA bb D2 SD2 M2_rA M2_rB
              try simp only [Act.put, List.setIfInBounds_toArray, List.set_cons_zero, List.set_cons_succ]
              refine anyL_ready (rs := [7]) (by kernel_rfl) (by simp) ?_
              refine AllL.cons (o := moC7) rfl (fun K' hK => ?_) AllL.nil
              rw [if_pos (by rfl)]
              unfold moC7
              go_simp
              obtain ⟨V4, hV4⟩ : ∃ V, V = V3.alloc (.cells #[.slice none 0 0] 33) := ⟨_, rfl⟩
              obtain ⟨bB, hbB⟩ : ∃ n, n = V3.heap.size := ⟨_, rfl⟩
              have bb : Below V3.heap.size V3 V4 := by rw [hV4]; exact (Below.refl _ _).alloc (Nat.le_refl _) _
              have M4_bB : MBlk V4 bB #[.slice none 0 0] 33 := by rw [hV4, hbB]; exact mblk_new _ _ _
              have M4_rA := M3_rA.more bb
              have NrAbB : rA ≠ bB := by have := M3_rA.lt; omega
              have M4_rB := M3_rB.more bb
              have NrBbB : rB ≠ bB := by have := M3_rB.lt; omega
              have M4_bA := M3_bA.more bb
              have NbAbB : bA ≠ bB := by have := M3_bA.lt; omega
              have D4 : Below Wd.heap.size Wd V4 := D3.trans (bb.mono D3.size)
              have GbB : Wd.heap.size ≤ bB := by rw [hbB]; exact D3.size
              have SD4 := HSB.out _ _ D4 SD0
              simp only [← hV4, ← hbB]
              refine hK _ _ SD4 ?_
              clear hK K' hV4 hbB bb D3 SD3 M3_rA M3_rB M3_bA
              try simp only [Act.put, List.setIfInBounds_toArray, List.set_cons_zero, List.set_cons_succ]
              refine anyL_ready (rs := [8]) (by kernel_rfl) (by simp) ?_
              refine AllL.cons (o := moC8) rfl (fun K' hK => ?_) AllL.nil
              rw [if_pos (by rfl)]
              unfold moC8
              have r0 := M4_bA.cell 0
              simp only [List.getElem?_toArray, List.getElem?_cons_zero] at r0
              have t0 := M4_bA.fr 0
              go_simp
              obtain ⟨V5, hV5⟩ : ∃ V, V = V4.setCell ⟨bA, 0, none⟩ (.slice (some ⟨rA, 0, none⟩) 1 1) := ⟨_, rfl⟩
              have M5_bA : MBlk V5 bA #[.slice (some ⟨rA, 0, none⟩) 1 1] 33 := by rw [hV5]; exact mblk_one M4_bA _
              have M5_rA := (show MBlk V5 rA _ _ by rw [hV5]; exact mblk_far M4_rA (by first | exact NrAbA | exact fun e => NbArA e.symm) _)
              have M5_rB := (show MBlk V5 rB _ _ by rw [hV5]; exact mblk_far M4_rB (by first | exact NrBbA | exact fun e => NbArB e.symm) _)
              have M5_bB := (show MBlk V5 bB _ _ by rw [hV5]; exact mblk_far M4_bB (by first | exact NbBbA | exact fun e => NbAbB e.symm) _)
              have D5 : Below Wd.heap.size Wd V5 := by rw [hV5]; exact D4.setCell (p := ⟨bA, 0, none⟩) GbA _
              have SD5 := HSB.out _ _ D5 SD0
              simp only [← hV5]
              refine hK _ _ SD5 ?_
              clear hK K' hV5 r0 t0 D4 SD4 M4_rA M4_rB M4_bA M4_bB
              try simp only [Act.put, List.setIfInBounds_toArray, List.set_cons_zero, List.set_cons_succ]
              refine anyL_ready (rs := [9]) (by kernel_rfl) (by simp) ?_
              refine AllL.cons (o := moC9) rfl (fun K' hK => ?_) AllL.nil
              rw [if_pos (by rfl)]
              unfold moC9
              have r0 := M5_bB.cell 0
              simp only [List.getElem?_toArray, List.getElem?_cons_zero] at r0
              have t0 := M5_bB.fr 0
              go_simp
              obtain ⟨V6, hV6⟩ : ∃ V, V = V5.setCell ⟨bB, 0, none⟩ (.slice (some ⟨rB, 0, none⟩) 1 1) := ⟨_, rfl⟩
              have M6_bB : MBlk V6 bB #[.slice (some ⟨rB, 0, none⟩) 1 1] 33 := by rw [hV6]; exact mblk_one M5_bB _
              have M6_rA := (show MBlk V6 rA _ _ by rw [hV6]; exact mblk_far M5_rA (by first | exact NrAbB | exact fun e => NbBrA e.symm) _)
              have M6_rB := (show MBlk V6 rB _ _ by rw [hV6]; exact mblk_far M5_rB (by first | exact NrBbB | exact fun e => NbBrB e.symm) _)
              have M6_bA := (show MBlk V6 bA _ _ by rw [hV6]; exact mblk_far M5_bA (by first | exact NbAbB | exact fun e => NbBbA e.symm) _)
              have D6 : Below Wd.heap.size Wd V6 := by rw [hV6]; exact D5.setCell (p := ⟨bB, 0, none⟩) GbB _
              have SD6 := HSB.out _ _ D6 SD0
              simp only [← hV6]
              refine hK _ _ SD6 ?_
              clear hK K' hV6 r0 t0 D5 SD5 M5_rA M5_rB M5_bA M5_bB
              try simp only [Act.put, List.setIfInBounds_toArray, List.set_cons_zero, List.set_cons_succ]
              refine anyL_done (by kernel_rfl) ?_ _
              go_wp2
              go_meet
              exact ⟨bA, bB, rA, rB, rfl, rfl, M6_bA, M6_bB, M6_rA, M6_rB, SD6, HB.out.trans (D6.mono HB.out.size)⟩
            · rw [if_pos (by rfl)]
              unfold moC7
              go_simp
              obtain ⟨V3, hV3⟩ : ∃ V, V = V2.alloc (.cells #[.slice none 0 0] 33) := ⟨_, rfl⟩
              obtain ⟨bB, hbB⟩ : ∃ n, n = V2.heap.size := ⟨_, rfl⟩
              have bb : Below V2.heap.size V2 V3 := by rw [hV3]; exact (Below.refl _ _).alloc (Nat.le_refl _) _
              have M3_bB : MBlk V3 bB #[.slice none 0 0] 33 := by rw [hV3, hbB]; exact mblk_new _ _ _
              have M3_rA := M2_rA.more bb
              have NrAbB : rA ≠ bB := by have := M2_rA.lt; omega
              have M3_rB := M2_rB.more bb
              have NrBbB : rB ≠ bB := by have := M2_rB.lt; omega
              have D3 : Below Wd.heap.size Wd V3 := D2.trans (bb.mono D2.size)
              have GbB : Wd.heap.size ≤ bB := by rw [hbB]; exact D2.size
              have SD3 := HSB.out _ _ D3 SD0
              simp only [← hV3, ← hbB]
              refine hK _ _ SD3 ?_
              clear hK K' hV3 hbB bb D2 SD2 M2_rA M2_rB
              try simp only [Act.put, List.setIfInBounds_toArray, List.set_cons_zero, List.set_cons_succ]
              refine anyL_ready (rs := [6]) (by kernel_rfl) (by simp) ?_
              refine AllL.cons (o := moC6) rfl (fun K' hK => ?_) AllL.nil
              rw [if_pos (by rfl)]
              unfold moC6
              go_simp
              obtain ⟨V4, hV4⟩ : ∃ V, V = V3.alloc (.cells #[.slice none 0 0] 33) := ⟨_, rfl⟩
              obtain ⟨bA, hbA⟩ : ∃ n, n = V3.heap.size := ⟨_, rfl⟩
              have bb : Below V3.heap.size V3 V4 := by rw [hV4]; exact (Below.refl _ _).alloc (Nat.le_refl _) _
              have M4_bA : MBlk V4 bA #[.slice none 0 0] 33 := by rw [hV4, hbA]; exact mblk_new _ _ _
              have M4_rA := M3_rA.more bb
              have NrAbA : rA ≠ bA := by have := M3_rA.lt; omega
              have M4_rB := M3_rB.more bb
              have NrBbA : rB ≠ bA := by have := M3_rB.lt; omega
              have M4_bB := M3_bB.more bb
              have NbBbA : bB ≠ bA := by have := M3_bB.lt; omega
              have D4 : Below Wd.heap.size Wd V4 := D3.trans (bb.mono D3.size)
              have GbA : Wd.heap.size ≤ bA := by rw [hbA]; exact D3.size
              have SD4 := HSB.out _ _ D4 SD0
              simp only [← hV4, ← hbA]
              refine hK _ _ SD4 ?_
              clear hK K' hV4 hbA bb D3 SD3 M3_rA M3_rB M3_bB
              try simp only [Act.put, List.setIfInBounds_toArray, List.set_cons_zero, List.set_cons_succ]
              refine anyL_ready (rs := [8]) (by kernel_rfl) (by simp) ?_
              refine AllL.cons (o := moC8) rfl (fun K' hK => ?_) AllL.nil
              rw [if_pos (by rfl)]
              unfold moC8
              have r0 := M4_bA.cell 0
              simp only [List.getElem?_toArray, List.getElem?_cons_zero] at r0
              have t0 := M4_bA.fr 0
              go_simp
              obtain ⟨V5, hV5⟩ : ∃ V, V = V4.setCell ⟨bA, 0, none⟩ (.slice (some ⟨rA, 0, none⟩) 1 1) := ⟨_, rfl⟩
              have M5_bA : MBlk V5 bA #[.slice (some ⟨rA, 0, none⟩) 1 1] 33 := by rw [hV5]; exact mblk_one M4_bA _
              have M5_rA := (show MBlk V5 rA _ _ by rw [hV5]; exact mblk_far M4_rA (by first | exact NrAbA | exact fun e => NbArA e.symm) _)
              have M5_rB := (show MBlk V5 rB _ _ by rw [hV5]; exact mblk_far M4_rB (by first | exact NrBbA | exact fun e => NbArB e.symm) _)
              have M5_bB := (show MBlk V5 bB _ _ by rw [hV5]; exact mblk_far M4_bB (by first | exact NbBbA | exact fun e => NbAbB e.symm) _)
              have D5 : Below Wd.heap.size Wd V5 := by rw [hV5]; exact D4.setCell (p := ⟨bA, 0, none⟩) GbA _
              have SD5 := HSB.out _ _ D5 SD0
              simp only [← hV5]
              refine hK _ _ SD5 ?_
              clear hK K' hV5 r0 t0 D4 SD4 M4_rA M4_rB M4_bB M4_bA
              try simp only [Act.put, List.setIfInBounds_toArray, List.set_cons_zero, List.set_cons_succ]
              refine anyL_ready (rs := [9]) (by kernel_rfl) (by simp) ?_
              refine AllL.cons (o := moC9) rfl (fun K' hK => ?_) AllL.nil
              rw [if_pos (by rfl)]
              unfold moC9
              have r0 := M5_bB.cell 0
              simp only [List.getElem?_toArray, List.getElem?_cons_zero] at r0
              have t0 := M5_bB.fr 0
              go_simp
              obtain ⟨V6, hV6⟩ : ∃ V, V = V5.setCell ⟨bB, 0, none⟩ (.slice (some ⟨rB, 0, none⟩) 1 1) := ⟨_, rfl⟩
              have M6_bB : MBlk V6 bB #[.slice (some ⟨rB, 0, none⟩) 1 1] 33 := by rw [hV6]; exact mblk_one M5_bB _
              have M6_rA := (show MBlk V6 rA _ _ by rw [hV6]; exact mblk_far M5_rA (by first | exact NrAbB | exact fun e => NbBrA e.symm) _)
              have M6_rB := (show MBlk V6 rB _ _ by rw [hV6]; exact mblk_far M5_rB (by first | exact NrBbB | exact fun e => NbBrB e.symm) _)
              have M6_bA := (show MBlk V6 bA _ _ by rw [hV6]; exact mblk_far M5_bA (by first | exact NbAbB | exact fun e => NbBbA e.symm) _)
              have D6 : Below Wd.heap.size Wd V6 := by rw [hV6]; exact D5.setCell (p := ⟨bB, 0, none⟩) GbB _
              have SD6 := HSB.out _ _ D6 SD0
              simp only [← hV6]
              refine hK _ _ SD6 ?_
              clear hK K' hV6 r0 t0 D5 SD5 M5_rA M5_rB M5_bB M5_bA
              try simp only [Act.put, List.setIfInBounds_toArray, List.set_cons_zero, List.set_cons_succ]
              refine anyL_done (by kernel_rfl) ?_ _
              go_wp2
              go_meet
              exact ⟨bA, bB, rA, rB, rfl, rfl, M6_bA, M6_bB, M6_rA, M6_rB, SD6, HB.out.trans (D6.mono HB.out.size)⟩
          · rw [if_pos (by rfl)]
            unfold moC6
            go_simp
            obtain ⟨V2, hV2⟩ : ∃ V, V = V1.alloc (.cells #[.slice none 0 0] 33) := ⟨_, rfl⟩
            obtain ⟨bA, hbA⟩ : ∃ n, n = V1.heap.size := ⟨_, rfl⟩
            have bb : Below V1.heap.size V1 V2 := by rw [hV2]; exact (Below.refl _ _).alloc (Nat.le_refl _) _
            have M2_bA : MBlk V2 bA #[.slice none 0 0] 33 := by rw [hV2, hbA]; exact mblk_new _ _ _
            have M2_rA := M1_rA.more bb
            have NrAbA : rA ≠ bA := by have := M1_rA.lt; omega
            have D2 : Below Wd.heap.size Wd V2 := D1.trans (bb.mono D1.size)
            have GbA : Wd.heap.size ≤ bA := by rw [hbA]; exact D1.size
            have SD2 := HSB.out _ _ D2 SD0
            simp only [← hV2, ← hbA]
            refine hK _ _ SD2 ?_
            clear hK K' hV2 hbA bb D1 SD1 M1_rA
            try simp only [Act.put, List.setIfInBounds_toArray, List.set_cons_zero, List.set_cons_succ]
            refine anyL_ready (rs := [4, 7]) (by kernel_rfl) (by simp) ?_
            refine AllL.cons (o := moC4) rfl (fun K' hK => ?_) (AllL.cons (o := moC7) rfl (fun K' hK => ?_) AllL.nil)
            · rw [if_pos (by rfl)]
              unfold moC4
              go_simp
              obtain ⟨V3, hV3⟩ : ∃ V, V = V2.alloc (.cells #[.slice p2 g.path.length c2, .string g.id, .string g.title, .string g.link, .int .i64 g.upd, .slice q2 g.ents.length d2] 25) := ⟨_, rfl⟩
              obtain ⟨rB, hrB⟩ : ∃ n, n = V2.heap.size := ⟨_, rfl⟩
              have bb : Below V2.heap.size V2 V3 := by rw [hV3]; exact (Below.refl _ _).alloc (Nat.le_refl _) _
              have M3_rB : MBlk V3 rB #[.slice p2 g.path.length c2, .string g.id, .string g.title, .string g.link, .int .i64 g.upd, .slice q2 g.ents.length d2] 25 := by rw [hV3, hrB]; exact mblk_new _ _ _
              have M3_rA := M2_rA.more bb
              have NrArB : rA ≠ rB := by have := M2_rA.lt; omega
              have M3_bA := M2_bA.more bb
              have NbArB : bA ≠ rB := by have := M2_bA.lt; omega
              have D3 : Below Wd.heap.size Wd V3 := D2.trans (bb.mono D2.size)
              have GrB : Wd.heap.size ≤ rB := by rw [hrB]; exact D2.size
              have SD3 := HSB.out _ _ D3 SD0
              simp only [← hV3, ← hrB]
              refine hK _ _ SD3 ?_
              clear hK K' hV3 hrB bb D2 SD2 M2_rA M2_bA
              try simp only [Act.put, List.setIfInBounds_toArray, List.set_cons_zero, List.set_cons_succ]
              refine anyL_take (i := 5) (oi := { dst := some 46, op := Go.Op.build 33 #[(0, Go.Operand.tmp 45)], type := 33, pos := "law.go:70", after := #[{ on := 4, ground := Go.Ground.data }, { on := 8, ground := Go.Ground.gcOnly Go.Departure.lateStores }], guard := none }) (v := ?_) rfl (by decide) (by kernel_rfl) (by kernel_rfl) (by kernel_rfl) (by kernel_rfl) (fun _ _ _ h => h) (Or.inl ⟨by rfl, ?_⟩) SD3 ?_
              rotate_left
              · intro wz hSz
                skip
                go_simp
                (try with_reducible rfl)
              try simp only [Act.put, List.setIfInBounds_toArray, List.set_cons_zero, List.set_cons_succ]
              refine anyL_ready (rs := [7]) (by kernel_rfl) (by simp) ?_
              refine AllL.cons (o := moC7) rfl (fun K' hK => ?_) AllL.nil
              rw [if_pos (by rfl)]
              unfold moC7
              go_simp
              obtain ⟨V4, hV4⟩ : ∃ V, V = V3.alloc (.cells #[.slice none 0 0] 33) := ⟨_, rfl⟩
              obtain ⟨bB, hbB⟩ : ∃ n, n = V3.heap.size := ⟨_, rfl⟩
              have bb : Below V3.heap.size V3 V4 := by rw [hV4]; exact (Below.refl _ _).alloc (Nat.le_refl _) _
              have M4_bB : MBlk V4 bB #[.slice none 0 0] 33 := by rw [hV4, hbB]; exact mblk_new _ _ _
              have M4_rA := M3_rA.more bb
              have NrAbB : rA ≠ bB := by have := M3_rA.lt; omega
              have M4_bA := M3_bA.more bb
              have NbAbB : bA ≠ bB := by have := M3_bA.lt; omega
              have M4_rB := M3_rB.more bb
              have NrBbB : rB ≠ bB := by have := M3_rB.lt; omega
              have D4 : Below Wd.heap.size Wd V4 := D3.trans (bb.mono D3.size)
              have GbB : Wd.heap.size ≤ bB := by rw [hbB]; exact D3.size
              have SD4 := HSB.out _ _ D4 SD0
              simp only [← hV4, ← hbB]
              refine hK _ _ SD4 ?_
              clear hK K' hV4 hbB bb D3 SD3 M3_rA M3_bA M3_rB
              try simp only [Act.put, List.setIfInBounds_toArray, List.set_cons_zero, List.set_cons_succ]
              refine anyL_ready (rs := [8]) (by kernel_rfl) (by simp) ?_
              refine AllL.cons (o := moC8) rfl (fun K' hK => ?_) AllL.nil
              rw [if_pos (by rfl)]
              unfold moC8
              have r0 := M4_bA.cell 0
              simp only [List.getElem?_toArray, List.getElem?_cons_zero] at r0
              have t0 := M4_bA.fr 0
              go_simp
              obtain ⟨V5, hV5⟩ : ∃ V, V = V4.setCell ⟨bA, 0, none⟩ (.slice (some ⟨rA, 0, none⟩) 1 1) := ⟨_, rfl⟩
              have M5_bA : MBlk V5 bA #[.slice (some ⟨rA, 0, none⟩) 1 1] 33 := by rw [hV5]; exact mblk_one M4_bA _
              have M5_rA := (show MBlk V5 rA _ _ by rw [hV5]; exact mblk_far M4_rA (by first | exact NrAbA | exact fun e => NbArA e.symm) _)
              have M5_rB := (show MBlk V5 rB _ _ by rw [hV5]; exact mblk_far M4_rB (by first | exact NrBbA | exact fun e => NbArB e.symm) _)
              have M5_bB := (show MBlk V5 bB _ _ by rw [hV5]; exact mblk_far M4_bB (by first | exact NbBbA | exact fun e => NbAbB e.symm) _)
              have D5 : Below Wd.heap.size Wd V5 := by rw [hV5]; exact D4.setCell (p := ⟨bA, 0, none⟩) GbA _
              have SD5 := HSB.out _ _ D5 SD0
              simp only [← hV5]
              refine hK _ _ SD5 ?_
              clear hK K' hV5 r0 t0 D4 SD4 M4_rA M4_bA M4_rB M4_bB
              try simp only [Act.put, List.setIfInBounds_toArray, List.set_cons_zero, List.set_cons_succ]
              refine anyL_ready (rs := [9]) (by kernel_rfl) (by simp) ?_
              refine AllL.cons (o := moC9) rfl (fun K' hK => ?_) AllL.nil
              rw [if_pos (by rfl)]
              unfold moC9
              have r0 := M5_bB.cell 0
              simp only [List.getElem?_toArray, List.getElem?_cons_zero] at r0
              have t0 := M5_bB.fr 0
              go_simp
              obtain ⟨V6, hV6⟩ : ∃ V, V = V5.setCell ⟨bB, 0, none⟩ (.slice (some ⟨rB, 0, none⟩) 1 1) := ⟨_, rfl⟩
              have M6_bB : MBlk V6 bB #[.slice (some ⟨rB, 0, none⟩) 1 1] 33 := by rw [hV6]; exact mblk_one M5_bB _
              have M6_rA := (show MBlk V6 rA _ _ by rw [hV6]; exact mblk_far M5_rA (by first | exact NrAbB | exact fun e => NbBrA e.symm) _)
              have M6_bA := (show MBlk V6 bA _ _ by rw [hV6]; exact mblk_far M5_bA (by first | exact NbAbB | exact fun e => NbBbA e.symm) _)
              have M6_rB := (show MBlk V6 rB _ _ by rw [hV6]; exact mblk_far M5_rB (by first | exact NrBbB | exact fun e => NbBrB e.symm) _)
              have D6 : Below Wd.heap.size Wd V6 := by rw [hV6]; exact D5.setCell (p := ⟨bB, 0, none⟩) GbB _
              have SD6 := HSB.out _ _ D6 SD0
              simp only [← hV6]
              refine hK _ _ SD6 ?_
              clear hK K' hV6 r0 t0 D5 SD5 M5_rA M5_bA M5_rB M5_bB
              try simp only [Act.put, List.setIfInBounds_toArray, List.set_cons_zero, List.set_cons_succ]
              refine anyL_done (by kernel_rfl) ?_ _
              go_wp2
              go_meet
              exact ⟨bA, bB, rA, rB, rfl, rfl, M6_bA, M6_bB, M6_rA, M6_rB, SD6, HB.out.trans (D6.mono HB.out.size)⟩
            · rw [if_pos (by rfl)]
              unfold moC7
              go_simp
              obtain ⟨V3, hV3⟩ : ∃ V, V = V2.alloc (.cells #[.slice none 0 0] 33) := ⟨_, rfl⟩
              obtain ⟨bB, hbB⟩ : ∃ n, n = V2.heap.size := ⟨_, rfl⟩
              have bb : Below V2.heap.size V2 V3 := by rw [hV3]; exact (Below.refl _ _).alloc (Nat.le_refl _) _
              have M3_bB : MBlk V3 bB #[.slice none 0 0] 33 := by rw [hV3, hbB]; exact mblk_new _ _ _
              have M3_rA := M2_rA.more bb
              have NrAbB : rA ≠ bB := by have := M2_rA.lt; omega
              have M3_bA := M2_bA.more bb
              have NbAbB : bA ≠ bB := by have := M2_bA.lt; omega
              have D3 : Below Wd.heap.size Wd V3 := D2.trans (bb.mono D2.size)
              have GbB : Wd.heap.size ≤ bB := by rw [hbB]; exact D2.size
              have SD3 := HSB.out _ _ D3 SD0
              simp only [← hV3, ← hbB]
              refine hK _ _ SD3 ?_
              clear hK K' hV3 hbB bb D2 SD2 M2_rA M2_bA
              try simp only [Act.put, List.setIfInBounds_toArray, List.set_cons_zero, List.set_cons_succ]
              refine anyL_ready (rs := [4, 8]) (by kernel_rfl) (by simp) ?_
              refine AllL.cons (o := moC4) rfl (fun K' hK => ?_) (AllL.cons (o := moC8) rfl (fun K' hK => ?_) AllL.nil)
              · rw [if_pos (by rfl)]
                unfold moC4
                go_simp
                obtain ⟨V4, hV4⟩ : ∃ V, V = V3.alloc (.cells #[.slice p2 g.path.length c2, .string g.id, .string g.title, .string g.link, .int .i64 g.upd, .slice q2 g.ents.length d2] 25) := ⟨_, rfl⟩
                obtain ⟨rB, hrB⟩ : ∃ n, n = V3.heap.size := ⟨_, rfl⟩
                have bb : Below V3.heap.size V3 V4 := by rw [hV4]; exact (Below.refl _ _).alloc (Nat.le_refl _) _
                have M4_rB : MBlk V4 rB #[.slice p2 g.path.length c2, .string g.id, .string g.title, .string g.link, .int .i64 g.upd, .slice q2 g.ents.length d2] 25 := by rw [hV4, hrB]; exact mblk_new _ _ _
                have M4_rA := M3_rA.more bb
                have NrArB : rA ≠ rB := by have := M3_rA.lt; omega
                have M4_bA := M3_bA.more bb
                have NbArB : bA ≠ rB := by have := M3_bA.lt; omega
                have M4_bB := M3_bB.more bb
                have NbBrB : bB ≠ rB := by have := M3_bB.lt; omega
                have D4 : Below Wd.heap.size Wd V4 := D3.trans (bb.mono D3.size)
                have GrB : Wd.heap.size ≤ rB := by rw [hrB]; exact D3.size
                have SD4 := HSB.out _ _ D4 SD0
                simp only [← hV4, ← hrB]
                refine hK _ _ SD4 ?_
                clear hK K' hV4 hrB bb D3 SD3 M3_rA M3_bA M3_bB
                try simp only [Act.put, List.setIfInBounds_toArray, List.set_cons_zero, List.set_cons_succ]
                refine anyL_take (i := 5) (oi := { dst := some 46, op := Go.Op.build 33 #[(0, Go.Operand.tmp 45)], type := 33, pos := "law.go:70", after := #[{ on := 4, ground := Go.Ground.data }, { on := 8, ground := Go.Ground.gcOnly Go.Departure.lateStores }], guard := none }) (v := ?_) rfl (by decide) (by kernel_rfl) (by kernel_rfl) (by kernel_rfl) (by kernel_rfl) (fun _ _ _ h => h) (Or.inl ⟨by rfl, ?_⟩) SD4 ?_
                rotate_left
                · intro wz hSz
                  skip
                  go_simp
                  (try with_reducible rfl)
                try simp only [Act.put, List.setIfInBounds_toArray, List.set_cons_zero, List.set_cons_succ]
                refine anyL_ready (rs := [8]) (by kernel_rfl) (by simp) ?_
                refine AllL.cons (o := moC8) rfl (fun K' hK => ?_) AllL.nil
                rw [if_pos (by rfl)]
                unfold moC8
                have r0 := M4_bA.cell 0
                simp only [List.getElem?_toArray, List.getElem?_cons_zero] at r0
                have t0 := M4_bA.fr 0
                go_simp
                obtain ⟨V5, hV5⟩ : ∃ V, V = V4.setCell ⟨bA, 0, none⟩ (.slice (some ⟨rA, 0, none⟩) 1 1) := ⟨_, rfl⟩
                have M5_bA : MBlk V5 bA #[.slice (some ⟨rA, 0, none⟩) 1 1] 33 := by rw [hV5]; exact mblk_one M4_bA _
                have M5_rA := (show MBlk V5 rA _ _ by rw [hV5]; exact mblk_far M4_rA (by first | exact NrAbA | exact fun e => NbArA e.symm) _)
                have M5_bB := (show MBlk V5 bB _ _ by rw [hV5]; exact mblk_far M4_bB (by first | exact NbBbA | exact fun e => NbAbB e.symm) _)
                have M5_rB := (show MBlk V5 rB _ _ by rw [hV5]; exact mblk_far M4_rB (by first | exact NrBbA | exact fun e => NbArB e.symm) _)
                have D5 : Below Wd.heap.size Wd V5 := by rw [hV5]; exact D4.setCell (p := ⟨bA, 0, none⟩) GbA _
                have SD5 := HSB.out _ _ D5 SD0
                simp only [← hV5]
                refine hK _ _ SD5 ?_
                clear hK K' hV5 r0 t0 D4 SD4 M4_rA M4_bA M4_bB M4_rB
                try simp only [Act.put, List.setIfInBounds_toArray, List.set_cons_zero, List.set_cons_succ]
                refine anyL_ready (rs := [9]) (by kernel_rfl) (by simp) ?_
                refine AllL.cons (o := moC9) rfl (fun K' hK => ?_) AllL.nil
                rw [if_pos (by rfl)]
                unfold moC9
                have r0 := M5_bB.cell 0
                simp only [List.getElem?_toArray, List.getElem?_cons_zero] at r0
                have t0 := M5_bB.fr 0
                go_simp
                obtain ⟨V6, hV6⟩ : ∃ V, V = V5.setCell ⟨bB, 0, none⟩ (.slice (some ⟨rB, 0, none⟩) 1 1) := ⟨_, rfl⟩
                have M6_bB : MBlk V6 bB #[.slice (some ⟨rB, 0, none⟩) 1 1] 33 := by rw [hV6]; exact mblk_one M5_bB _
                have M6_rA := (show MBlk V6 rA _ _ by rw [hV6]; exact mblk_far M5_rA (by first | exact NrAbB | exact fun e => NbBrA e.symm) _)
                have M6_bA := (show MBlk V6 bA _ _ by rw [hV6]; exact mblk_far M5_bA (by first | exact NbAbB | exact fun e => NbBbA e.symm) _)
                have M6_rB := (show MBlk V6 rB _ _ by rw [hV6]; exact mblk_far M5_rB (by first | exact NrBbB | exact fun e => NbBrB e.symm) _)
                have D6 : Below Wd.heap.size Wd V6 := by rw [hV6]; exact D5.setCell (p := ⟨bB, 0, none⟩) GbB _
                have SD6 := HSB.out _ _ D6 SD0
                simp only [← hV6]
                refine hK _ _ SD6 ?_
                clear hK K' hV6 r0 t0 D5 SD5 M5_rA M5_bA M5_bB M5_rB
                try simp only [Act.put, List.setIfInBounds_toArray, List.set_cons_zero, List.set_cons_succ]
                refine anyL_done (by kernel_rfl) ?_ _
                go_wp2
                go_meet
                exact ⟨bA, bB, rA, rB, rfl, rfl, M6_bA, M6_bB, M6_rA, M6_rB, SD6, HB.out.trans (D6.mono HB.out.size)⟩
              · rw [if_pos (by rfl)]
                unfold moC8
                have r0 := M3_bA.cell 0
                simp only [List.getElem?_toArray, List.getElem?_cons_zero] at r0
                have t0 := M3_bA.fr 0
                go_simp
                obtain ⟨V4, hV4⟩ : ∃ V, V = V3.setCell ⟨bA, 0, none⟩ (.slice (some ⟨rA, 0, none⟩) 1 1) := ⟨_, rfl⟩
                have M4_bA : MBlk V4 bA #[.slice (some ⟨rA, 0, none⟩) 1 1] 33 := by rw [hV4]; exact mblk_one M3_bA _
                have M4_rA := (show MBlk V4 rA _ _ by rw [hV4]; exact mblk_far M3_rA (by first | exact NrAbA | exact fun e => NbArA e.symm) _)
                have M4_bB := (show MBlk V4 bB _ _ by rw [hV4]; exact mblk_far M3_bB (by first | exact NbBbA | exact fun e => NbAbB e.symm) _)
                have D4 : Below Wd.heap.size Wd V4 := by rw [hV4]; exact D3.setCell (p := ⟨bA, 0, none⟩) GbA _
                have SD4 := HSB.out _ _ D4 SD0
                simp only [← hV4]
                refine hK _ _ SD4 ?_
                clear hK K' hV4 r0 t0 D3 SD3 M3_rA M3_bA M3_bB
                try simp only [Act.put, List.setIfInBounds_toArray, List.set_cons_zero, List.set_cons_succ]
                refine anyL_ready (rs := [4]) (by kernel_rfl) (by simp) ?_
                refine AllL.cons (o := moC4) rfl (fun K' hK => ?_) AllL.nil
                rw [if_pos (by rfl)]
                unfold moC4
                go_simp
                obtain ⟨V5, hV5⟩ : ∃ V, V = V4.alloc (.cells #[.slice p2 g.path.length c2, .string g.id, .string g.title, .string g.link, .int .i64 g.upd, .slice q2 g.ents.length d2] 25) := ⟨_, rfl⟩
                obtain ⟨rB, hrB⟩ : ∃ n, n = V4.heap.size := ⟨_, rfl⟩
                have bb : Below V4.heap.size V4 V5 := by rw [hV5]; exact (Below.refl _ _).alloc (Nat.le_refl _) _
                have M5_rB : MBlk V5 rB #[.slice p2 g.path.length c2, .string g.id, .string g.title, .string g.link, .int .i64 g.upd, .slice q2 g.ents.length d2] 25 := by rw [hV5, hrB]; exact mblk_new _ _ _
                have M5_rA := M4_rA.more bb
                have NrArB : rA ≠ rB := by have := M4_rA.lt; omega
                have M5_bA := M4_bA.more bb
                have NbArB : bA ≠ rB := by have := M4_bA.lt; omega
                have M5_bB := M4_bB.more bb
                have NbBrB : bB ≠ rB := by have := M4_bB.lt; omega
                have D5 : Below Wd.heap.size Wd V5 := D4.trans (bb.mono D4.size)
                have GrB : Wd.heap.size ≤ rB := by rw [hrB]; exact D4.size
                have SD5 := HSB.out _ _ D5 SD0
                simp only [← hV5, ← hrB]
                refine hK _ _ SD5 ?_
                clear hK K' hV5 hrB bb D4 SD4 M4_rA M4_bA M4_bB
                try simp only [Act.put, List.setIfInBounds_toArray, List.set_cons_zero, List.set_cons_succ]
                refine anyL_take (i := 5) (oi := { dst := some 46, op := Go.Op.build 33 #[(0, Go.Operand.tmp 45)], type := 33, pos := "law.go:70", after := #[{ on := 4, ground := Go.Ground.data }, { on := 8, ground := Go.Ground.gcOnly Go.Departure.lateStores }], guard := none }) (v := ?_) rfl (by decide) (by kernel_rfl) (by kernel_rfl) (by kernel_rfl) (by kernel_rfl) (fun _ _ _ h => h) (Or.inl ⟨by rfl, ?_⟩) SD5 ?_
                rotate_left
                · intro wz hSz
                  skip
                  go_simp
                  (try with_reducible rfl)
                try simp only [Act.put, List.setIfInBounds_toArray, List.set_cons_zero, List.set_cons_succ]
                refine anyL_ready (rs := [9]) (by kernel_rfl) (by simp) ?_
                refine AllL.cons (o := moC9) rfl (fun K' hK => ?_) AllL.nil
                rw [if_pos (by rfl)]
                unfold moC9
                have r0 := M5_bB.cell 0
                simp only [List.getElem?_toArray, List.getElem?_cons_zero] at r0
                have t0 := M5_bB.fr 0
                go_simp
                obtain ⟨V6, hV6⟩ : ∃ V, V = V5.setCell ⟨bB, 0, none⟩ (.slice (some ⟨rB, 0, none⟩) 1 1) := ⟨_, rfl⟩
                have M6_bB : MBlk V6 bB #[.slice (some ⟨rB, 0, none⟩) 1 1] 33 := by rw [hV6]; exact mblk_one M5_bB _
                have M6_rA := (show MBlk V6 rA _ _ by rw [hV6]; exact mblk_far M5_rA (by first | exact NrAbB | exact fun e => NbBrA e.symm) _)
                have M6_bA := (show MBlk V6 bA _ _ by rw [hV6]; exact mblk_far M5_bA (by first | exact NbAbB | exact fun e => NbBbA e.symm) _)
                have M6_rB := (show MBlk V6 rB _ _ by rw [hV6]; exact mblk_far M5_rB (by first | exact NrBbB | exact fun e => NbBrB e.symm) _)
                have D6 : Below Wd.heap.size Wd V6 := by rw [hV6]; exact D5.setCell (p := ⟨bB, 0, none⟩) GbB _
                have SD6 := HSB.out _ _ D6 SD0
                simp only [← hV6]
                refine hK _ _ SD6 ?_
                clear hK K' hV6 r0 t0 D5 SD5 M5_rA M5_bA M5_bB M5_rB
                try simp only [Act.put, List.setIfInBounds_toArray, List.set_cons_zero, List.set_cons_succ]
                refine anyL_done (by kernel_rfl) ?_ _
                go_wp2
                go_meet
                exact ⟨bA, bB, rA, rB, rfl, rfl, M6_bA, M6_bB, M6_rA, M6_rB, SD6, HB.out.trans (D6.mono HB.out.size)⟩
          · rw [if_pos (by rfl)]
            unfold moC7
            go_simp
            obtain ⟨V2, hV2⟩ : ∃ V, V = V1.alloc (.cells #[.slice none 0 0] 33) := ⟨_, rfl⟩
            obtain ⟨bB, hbB⟩ : ∃ n, n = V1.heap.size := ⟨_, rfl⟩
            have bb : Below V1.heap.size V1 V2 := by rw [hV2]; exact (Below.refl _ _).alloc (Nat.le_refl _) _
            have M2_bB : MBlk V2 bB #[.slice none 0 0] 33 := by rw [hV2, hbB]; exact mblk_new _ _ _
            have M2_rA := M1_rA.more bb
            have NrAbB : rA ≠ bB := by have := M1_rA.lt; omega
            have D2 : Below Wd.heap.size Wd V2 := D1.trans (bb.mono D1.size)
            have GbB : Wd.heap.size ≤ bB := by rw [hbB]; exact D1.size
            have SD2 := HSB.out _ _ D2 SD0
            simp only [← hV2, ← hbB]
            refine hK _ _ SD2 ?_
            clear hK K' hV2 hbB bb D1 SD1 M1_rA
            try simp only [Act.put, List.setIfInBounds_toArray, List.set_cons_zero, List.set_cons_succ]
            refine anyL_ready (rs := [4, 6]) (by kernel_rfl) (by simp) ?_
            refine AllL.cons (o := moC4) rfl (fun K' hK => ?_) (AllL.cons (o := moC6) rfl (fun K' hK => ?_) AllL.nil)
            · rw [if_pos (by rfl)]
              unfold moC4
              go_simp
              obtain ⟨V3, hV3⟩ : ∃ V, V = V2.alloc (.cells #[.slice p2 g.path.length c2, .string g.id, .string g.title, .string g.link, .int .i64 g.upd, .slice q2 g.ents.length d2] 25) := ⟨_, rfl⟩
              obtain ⟨rB, hrB⟩ : ∃ n, n = V2.heap.size := ⟨_, rfl⟩
              have bb : Below V2.heap.size V2 V3 := by rw [hV3]; exact (Below.refl _ _).alloc (Nat.le_refl _) _
              have M3_rB : MBlk V3 rB #[.slice p2 g.path.length c2, .string g.id, .string g.title, .string g.link, .int .i64 g.upd, .slice q2 g.ents.length d2] 25 := by rw [hV3, hrB]; exact mblk_new _ _ _
              have M3_rA := M2_rA.more bb
              have NrArB : rA ≠ rB := by have := M2_rA.lt; omega
              have M3_bB := M2_bB.more bb
              have NbBrB : bB ≠ rB := by have := M2_bB.lt; omega
              have D3 : Below Wd.heap.size Wd V3 := D2.trans (bb.mono D2.size)
              have GrB : Wd.heap.size ≤ rB := by rw [hrB]; exact D2.size
              have SD3 := HSB.out _ _ D3 SD0
              simp only [← hV3, ← hrB]
              refine hK _ _ SD3 ?_
              clear hK K' hV3 hrB bb D2 SD2 M2_rA M2_bB
              try simp only [Act.put, List.setIfInBounds_toArray, List.set_cons_zero, List.set_cons_succ]
              refine anyL_take (i := 5) (oi := { dst := some 46, op := Go.Op.build 33 #[(0, Go.Operand.tmp 45)], type := 33, pos := "law.go:70", after := #[{ on := 4, ground := Go.Ground.data }, { on := 8, ground := Go.Ground.gcOnly Go.Departure.lateStores }], guard := none }) (v := ?_) rfl (by decide) (by kernel_rfl) (by kernel_rfl) (by kernel_rfl) (by kernel_rfl) (fun _ _ _ h => h) (Or.inl ⟨by rfl, ?_⟩) SD3 ?_
              rotate_left
              · intro wz hSz
                skip
                go_simp
                (try with_reducible rfl)
              try simp only [Act.put, List.setIfInBounds_toArray, List.set_cons_zero, List.set_cons_succ]
              refine anyL_ready (rs := [6]) (by kernel_rfl) (by simp) ?_
              refine AllL.cons (o := moC6) rfl (fun K' hK => ?_) AllL.nil
              rw [if_pos (by rfl)]
              unfold moC6
              go_simp
              obtain ⟨V4, hV4⟩ : ∃ V, V = V3.alloc (.cells #[.slice none 0 0] 33) := ⟨_, rfl⟩
              obtain ⟨bA, hbA⟩ : ∃ n, n = V3.heap.size := ⟨_, rfl⟩
              have bb : Below V3.heap.size V3 V4 := by rw [hV4]; exact (Below.refl _ _).alloc (Nat.le_refl _) _
              have M4_bA : MBlk V4 bA #[.slice none 0 0] 33 := by rw [hV4, hbA]; exact mblk_new _ _ _
              have M4_rA := M3_rA.more bb
              have NrAbA : rA ≠ bA := by have := M3_rA.lt; omega
              have M4_bB := M3_bB.more bb
              have NbBbA : bB ≠ bA := by have := M3_bB.lt; omega
              have M4_rB := M3_rB.more bb
              have NrBbA : rB ≠ bA := by have := M3_rB.lt; omega
              have D4 : Below Wd.heap.size Wd V4 := D3.trans (bb.mono D3.size)
              have GbA : Wd.heap.size ≤ bA := by rw [hbA]; exact D3.size
              have SD4 := HSB.out _ _ D4 SD0
              simp only [← hV4, ← hbA]
              refine hK _ _ SD4 ?_
              clear hK K' hV4 hbA bb D3 SD3 M3_rA M3_bB M3_rB
              try simp only [Act.put, List.setIfInBounds_toArray, List.set_cons_zero, List.set_cons_succ]
              refine anyL_ready (rs := [8]) (by kernel_rfl) (by simp) ?_
              refine AllL.cons (o := moC8) rfl (fun K' hK => ?_) AllL.nil
              rw [if_pos (by rfl)]
              unfold moC8
              have r0 := M4_bA.cell 0
              simp only [List.getElem?_toArray, List.getElem?_cons_zero] at r0
              have t0 := M4_bA.fr 0
              go_simp
              obtain ⟨V5, hV5⟩ : ∃ V, V = V4.setCell ⟨bA, 0, none⟩ (.slice (some ⟨rA, 0, none⟩) 1 1) := ⟨_, rfl⟩
              have M5_bA : MBlk V5 bA #[.slice (some ⟨rA, 0, none⟩) 1 1] 33 := by rw [hV5]; exact mblk_one M4_bA _
              have M5_rA := (show MBlk V5 rA _ _ by rw [hV5]; exact mblk_far M4_rA (by first | exact NrAbA | exact fun e => NbArA e.symm) _)
              have M5_bB := (show MBlk V5 bB _ _ by rw [hV5]; exact mblk_far M4_bB (by first | exact NbBbA | exact fun e => NbAbB e.symm) _)
              have M5_rB := (show MBlk V5 rB _ _ by rw [hV5]; exact mblk_far M4_rB (by first | exact NrBbA | exact fun e => NbArB e.symm) _)
              have D5 : Below Wd.heap.size Wd V5 := by rw [hV5]; exact D4.setCell (p := ⟨bA, 0, none⟩) GbA _
              have SD5 := HSB.out _ _ D5 SD0
              simp only [← hV5]
              refine hK _ _ SD5 ?_
              clear hK K' hV5 r0 t0 D4 SD4 M4_rA M4_bB M4_rB M4_bA
              try simp only [Act.put, List.setIfInBounds_toArray, List.set_cons_zero, List.set_cons_succ]
              refine anyL_ready (rs := [9]) (by kernel_rfl) (by simp) ?_
              refine AllL.cons (o := moC9) rfl (fun K' hK => ?_) AllL.nil
              rw [if_pos (by rfl)]
              unfold moC9
              have r0 := M5_bB.cell 0
              simp only [List.getElem?_toArray, List.getElem?_cons_zero] at r0
              have t0 := M5_bB.fr 0
              go_simp
              obtain ⟨V6, hV6⟩ : ∃ V, V = V5.setCell ⟨bB, 0, none⟩ (.slice (some ⟨rB, 0, none⟩) 1 1) := ⟨_, rfl⟩
              have M6_bB : MBlk V6 bB #[.slice (some ⟨rB, 0, none⟩) 1 1] 33 := by rw [hV6]; exact mblk_one M5_bB _
              have M6_rA := (show MBlk V6 rA _ _ by rw [hV6]; exact mblk_far M5_rA (by first | exact NrAbB | exact fun e => NbBrA e.symm) _)
              have M6_rB := (show MBlk V6 rB _ _ by rw [hV6]; exact mblk_far M5_rB (by first | exact NrBbB | exact fun e => NbBrB e.symm) _)
              have M6_bA := (show MBlk V6 bA _ _ by rw [hV6]; exact mblk_far M5_bA (by first | exact NbAbB | exact fun e => NbBbA e.symm) _)
              have D6 : Below Wd.heap.size Wd V6 := by rw [hV6]; exact D5.setCell (p := ⟨bB, 0, none⟩) GbB _
              have SD6 := HSB.out _ _ D6 SD0
              simp only [← hV6]
              refine hK _ _ SD6 ?_
              clear hK K' hV6 r0 t0 D5 SD5 M5_rA M5_bB M5_rB M5_bA
              try simp only [Act.put, List.setIfInBounds_toArray, List.set_cons_zero, List.set_cons_succ]
              refine anyL_done (by kernel_rfl) ?_ _
              go_wp2
              go_meet
              exact ⟨bA, bB, rA, rB, rfl, rfl, M6_bA, M6_bB, M6_rA, M6_rB, SD6, HB.out.trans (D6.mono HB.out.size)⟩
            · rw [if_pos (by rfl)]
              unfold moC6
              go_simp
              obtain ⟨V3, hV3⟩ : ∃ V, V = V2.alloc (.cells #[.slice none 0 0] 33) := ⟨_, rfl⟩
              obtain ⟨bA, hbA⟩ : ∃ n, n = V2.heap.size := ⟨_, rfl⟩
              have bb : Below V2.heap.size V2 V3 := by rw [hV3]; exact (Below.refl _ _).alloc (Nat.le_refl _) _
              have M3_bA : MBlk V3 bA #[.slice none 0 0] 33 := by rw [hV3, hbA]; exact mblk_new _ _ _
              have M3_rA := M2_rA.more bb
              have NrAbA : rA ≠ bA := by have := M2_rA.lt; omega
              have M3_bB := M2_bB.more bb
              have NbBbA : bB ≠ bA := by have := M2_bB.lt; omega
              have D3 : Below Wd.heap.size Wd V3 := D2.trans (bb.mono D2.size)
              have GbA : Wd.heap.size ≤ bA := by rw [hbA]; exact D2.size
              have SD3 := HSB.out _ _ D3 SD0
              simp only [← hV3, ← hbA]
              refine hK _ _ SD3 ?_
              clear hK K' hV3 hbA bb D2 SD2 M2_rA M2_bB
              try simp only [Act.put, List.setIfInBounds_toArray, List.set_cons_zero, List.set_cons_succ]
              refine anyL_ready (rs := [4, 8]) (by kernel_rfl) (by simp) ?_
              refine AllL.cons (o := moC4) rfl (fun K' hK => ?_) (AllL.cons (o := moC8) rfl (fun K' hK => ?_) AllL.nil)
              · rw [if_pos (by rfl)]
                unfold moC4
                go_simp
                obtain ⟨V4, hV4⟩ : ∃ V, V = V3.alloc (.cells #[.slice p2 g.path.length c2, .string g.id, .string g.title, .string g.link, .int .i64 g.upd, .slice q2 g.ents.length d2] 25) := ⟨_, rfl⟩
                obtain ⟨rB, hrB⟩ : ∃ n, n = V3.heap.size := ⟨_, rfl⟩
                have bb : Below V3.heap.size V3 V4 := by rw [hV4]; exact (Below.refl _ _).alloc (Nat.le_refl _) _
                have M4_rB : MBlk V4 rB #[.slice p2 g.path.length c2, .string g.id, .string g.title, .string g.link, .int .i64 g.upd, .slice q2 g.ents.length d2] 25 := by rw [hV4, hrB]; exact mblk_new _ _ _
                have M4_rA := M3_rA.more bb
                have NrArB : rA ≠ rB := by have := M3_rA.lt; omega
                have M4_bB := M3_bB.more bb
                have NbBrB : bB ≠ rB := by have := M3_bB.lt; omega
                have M4_bA := M3_bA.more bb
                have NbArB : bA ≠ rB := by have := M3_bA.lt; omega
                have D4 : Below Wd.heap.size Wd V4 := D3.trans (bb.mono D3.size)
                have GrB : Wd.heap.size ≤ rB := by rw [hrB]; exact D3.size
                have SD4 := HSB.out _ _ D4 SD0
                simp only [← hV4, ← hrB]
                refine hK _ _ SD4 ?_
                clear hK K' hV4 hrB bb D3 SD3 M3_rA M3_bB M3_bA
                try simp only [Act.put, List.setIfInBounds_toArray, List.set_cons_zero, List.set_cons_succ]
                refine anyL_take (i := 5) (oi := { dst := some 46, op := Go.Op.build 33 #[(0, Go.Operand.tmp 45)], type := 33, pos := "law.go:70", after := #[{ on := 4, ground := Go.Ground.data }, { on := 8, ground := Go.Ground.gcOnly Go.Departure.lateStores }], guard := none }) (v := ?_) rfl (by decide) (by kernel_rfl) (by kernel_rfl) (by kernel_rfl) (by kernel_rfl) (fun _ _ _ h => h) (Or.inl ⟨by rfl, ?_⟩) SD4 ?_
                rotate_left
                · intro wz hSz
                  skip
                  go_simp
                  (try with_reducible rfl)
                try simp only [Act.put, List.setIfInBounds_toArray, List.set_cons_zero, List.set_cons_succ]
                refine anyL_ready (rs := [8]) (by kernel_rfl) (by simp) ?_
                refine AllL.cons (o := moC8) rfl (fun K' hK => ?_) AllL.nil
                rw [if_pos (by rfl)]
                unfold moC8
                have r0 := M4_bA.cell 0
                simp only [List.getElem?_toArray, List.getElem?_cons_zero] at r0
                have t0 := M4_bA.fr 0
                go_simp
                obtain ⟨V5, hV5⟩ : ∃ V, V = V4.setCell ⟨bA, 0, none⟩ (.slice (some ⟨rA, 0, none⟩) 1 1) := ⟨_, rfl⟩
                have M5_bA : MBlk V5 bA #[.slice (some ⟨rA, 0, none⟩) 1 1] 33 := by rw [hV5]; exact mblk_one M4_bA _
                have M5_rA := (show MBlk V5 rA _ _ by rw [hV5]; exact mblk_far M4_rA (by first | exact NrAbA | exact fun e => NbArA e.symm) _)
                have M5_bB := (show MBlk V5 bB _ _ by rw [hV5]; exact mblk_far M4_bB (by first | exact NbBbA | exact fun e => NbAbB e.symm) _)
                have M5_rB := (show MBlk V5 rB _ _ by rw [hV5]; exact mblk_far M4_rB (by first | exact NrBbA | exact fun e => NbArB e.symm) _)
                have D5 : Below Wd.heap.size Wd V5 := by rw [hV5]; exact D4.setCell (p := ⟨bA, 0, none⟩) GbA _
                have SD5 := HSB.out _ _ D5 SD0
                simp only [← hV5]
                refine hK _ _ SD5 ?_
                clear hK K' hV5 r0 t0 D4 SD4 M4_rA M4_bB M4_bA M4_rB
                try simp only [Act.put, List.setIfInBounds_toArray, List.set_cons_zero, List.set_cons_succ]
                refine anyL_ready (rs := [9]) (by kernel_rfl) (by simp) ?_
                refine AllL.cons (o := moC9) rfl (fun K' hK => ?_) AllL.nil
                rw [if_pos (by rfl)]
                unfold moC9
                have r0 := M5_bB.cell 0
                simp only [List.getElem?_toArray, List.getElem?_cons_zero] at r0
                have t0 := M5_bB.fr 0
                go_simp
                obtain ⟨V6, hV6⟩ : ∃ V, V = V5.setCell ⟨bB, 0, none⟩ (.slice (some ⟨rB, 0, none⟩) 1 1) := ⟨_, rfl⟩
                have M6_bB : MBlk V6 bB #[.slice (some ⟨rB, 0, none⟩) 1 1] 33 := by rw [hV6]; exact mblk_one M5_bB _
                have M6_rA := (show MBlk V6 rA _ _ by rw [hV6]; exact mblk_far M5_rA (by first | exact NrAbB | exact fun e => NbBrA e.symm) _)
                have M6_bA := (show MBlk V6 bA _ _ by rw [hV6]; exact mblk_far M5_bA (by first | exact NbAbB | exact fun e => NbBbA e.symm) _)
                have M6_rB := (show MBlk V6 rB _ _ by rw [hV6]; exact mblk_far M5_rB (by first | exact NrBbB | exact fun e => NbBrB e.symm) _)
                have D6 : Below Wd.heap.size Wd V6 := by rw [hV6]; exact D5.setCell (p := ⟨bB, 0, none⟩) GbB _
                have SD6 := HSB.out _ _ D6 SD0
                simp only [← hV6]
                refine hK _ _ SD6 ?_
                clear hK K' hV6 r0 t0 D5 SD5 M5_rA M5_bB M5_bA M5_rB
                try simp only [Act.put, List.setIfInBounds_toArray, List.set_cons_zero, List.set_cons_succ]
                refine anyL_done (by kernel_rfl) ?_ _
                go_wp2
                go_meet
                exact ⟨bA, bB, rA, rB, rfl, rfl, M6_bA, M6_bB, M6_rA, M6_rB, SD6, HB.out.trans (D6.mono HB.out.size)⟩
              · rw [if_pos (by rfl)]
                unfold moC8
                have r0 := M3_bA.cell 0
                simp only [List.getElem?_toArray, List.getElem?_cons_zero] at r0
                have t0 := M3_bA.fr 0
                go_simp
                obtain ⟨V4, hV4⟩ : ∃ V, V = V3.setCell ⟨bA, 0, none⟩ (.slice (some ⟨rA, 0, none⟩) 1 1) := ⟨_, rfl⟩
                have M4_bA : MBlk V4 bA #[.slice (some ⟨rA, 0, none⟩) 1 1] 33 := by rw [hV4]; exact mblk_one M3_bA _
                have M4_rA := (show MBlk V4 rA _ _ by rw [hV4]; exact mblk_far M3_rA (by first | exact NrAbA | exact fun e => NbArA e.symm) _)
                have M4_bB := (show MBlk V4 bB _ _ by rw [hV4]; exact mblk_far M3_bB (by first | exact NbBbA | exact fun e => NbAbB e.symm) _)
                have D4 : Below Wd.heap.size Wd V4 := by rw [hV4]; exact D3.setCell (p := ⟨bA, 0, none⟩) GbA _
                have SD4 := HSB.out _ _ D4 SD0
                simp only [← hV4]
                refine hK _ _ SD4 ?_
                clear hK K' hV4 r0 t0 D3 SD3 M3_rA M3_bB M3_bA
                try simp only [Act.put, List.setIfInBounds_toArray, List.set_cons_zero, List.set_cons_succ]
                refine anyL_ready (rs := [4]) (by kernel_rfl) (by simp) ?_
                refine AllL.cons (o := moC4) rfl (fun K' hK => ?_) AllL.nil
                rw [if_pos (by rfl)]
                unfold moC4
                go_simp
                obtain ⟨V5, hV5⟩ : ∃ V, V = V4.alloc (.cells #[.slice p2 g.path.length c2, .string g.id, .string g.title, .string g.link, .int .i64 g.upd, .slice q2 g.ents.length d2] 25) := ⟨_, rfl⟩
                obtain ⟨rB, hrB⟩ : ∃ n, n = V4.heap.size := ⟨_, rfl⟩
                have bb : Below V4.heap.size V4 V5 := by rw [hV5]; exact (Below.refl _ _).alloc (Nat.le_refl _) _
                have M5_rB : MBlk V5 rB #[.slice p2 g.path.length c2, .string g.id, .string g.title, .string g.link, .int .i64 g.upd, .slice q2 g.ents.length d2] 25 := by rw [hV5, hrB]; exact mblk_new _ _ _
                have M5_rA := M4_rA.more bb
                have NrArB : rA ≠ rB := by have := M4_rA.lt; omega
                have M5_bB := M4_bB.more bb
                have NbBrB : bB ≠ rB := by have := M4_bB.lt; omega
                have M5_bA := M4_bA.more bb
                have NbArB : bA ≠ rB := by have := M4_bA.lt; omega
                have D5 : Below Wd.heap.size Wd V5 := D4.trans (bb.mono D4.size)
                have GrB : Wd.heap.size ≤ rB := by rw [hrB]; exact D4.size
                have SD5 := HSB.out _ _ D5 SD0
                simp only [← hV5, ← hrB]
                refine hK _ _ SD5 ?_
                clear hK K' hV5 hrB bb D4 SD4 M4_rA M4_bB M4_bA
                try simp only [Act.put, List.setIfInBounds_toArray, List.set_cons_zero, List.set_cons_succ]
                refine anyL_take (i := 5) (oi := { dst := some 46, op := Go.Op.build 33 #[(0, Go.Operand.tmp 45)], type := 33, pos := "law.go:70", after := #[{ on := 4, ground := Go.Ground.data }, { on := 8, ground := Go.Ground.gcOnly Go.Departure.lateStores }], guard := none }) (v := ?_) rfl (by decide) (by kernel_rfl) (by kernel_rfl) (by kernel_rfl) (by kernel_rfl) (fun _ _ _ h => h) (Or.inl ⟨by rfl, ?_⟩) SD5 ?_
                rotate_left
                · intro wz hSz
                  skip
                  go_simp
                  (try with_reducible rfl)
                try simp only [Act.put, List.setIfInBounds_toArray, List.set_cons_zero, List.set_cons_succ]
                refine anyL_ready (rs := [9]) (by kernel_rfl) (by simp) ?_
                refine AllL.cons (o := moC9) rfl (fun K' hK => ?_) AllL.nil
                rw [if_pos (by rfl)]
                unfold moC9
                have r0 := M5_bB.cell 0
                simp only [List.getElem?_toArray, List.getElem?_cons_zero] at r0
                have t0 := M5_bB.fr 0
                go_simp
                obtain ⟨V6, hV6⟩ : ∃ V, V = V5.setCell ⟨bB, 0, none⟩ (.slice (some ⟨rB, 0, none⟩) 1 1) := ⟨_, rfl⟩
                have M6_bB : MBlk V6 bB #[.slice (some ⟨rB, 0, none⟩) 1 1] 33 := by rw [hV6]; exact mblk_one M5_bB _
                have M6_rA := (show MBlk V6 rA _ _ by rw [hV6]; exact mblk_far M5_rA (by first | exact NrAbB | exact fun e => NbBrA e.symm) _)
                have M6_bA := (show MBlk V6 bA _ _ by rw [hV6]; exact mblk_far M5_bA (by first | exact NbAbB | exact fun e => NbBbA e.symm) _)
                have M6_rB := (show MBlk V6 rB _ _ by rw [hV6]; exact mblk_far M5_rB (by first | exact NrBbB | exact fun e => NbBrB e.symm) _)
                have D6 : Below Wd.heap.size Wd V6 := by rw [hV6]; exact D5.setCell (p := ⟨bB, 0, none⟩) GbB _
                have SD6 := HSB.out _ _ D6 SD0
                simp only [← hV6]
                refine hK _ _ SD6 ?_
                clear hK K' hV6 r0 t0 D5 SD5 M5_rA M5_bB M5_bA M5_rB
                try simp only [Act.put, List.setIfInBounds_toArray, List.set_cons_zero, List.set_cons_succ]
                refine anyL_done (by kernel_rfl) ?_ _
                go_wp2
                go_meet
                exact ⟨bA, bB, rA, rB, rfl, rfl, M6_bA, M6_bB, M6_rA, M6_rB, SD6, HB.out.trans (D6.mono HB.out.size)⟩
        · rw [if_pos (by rfl)]
          unfold moC4
          go_simp
          obtain ⟨V1, hV1⟩ : ∃ V, V = Wd.alloc (.cells #[.slice p2 g.path.length c2, .string g.id, .string g.title, .string g.link, .int .i64 g.upd, .slice q2 g.ents.length d2] 25) := ⟨_, rfl⟩
          obtain ⟨rB, hrB⟩ : ∃ n, n = Wd.heap.size := ⟨_, rfl⟩
          have bb : Below Wd.heap.size Wd V1 := by rw [hV1]; exact (Below.refl _ _).alloc (Nat.le_refl _) _
          have M1_rB : MBlk V1 rB #[.slice p2 g.path.length c2, .string g.id, .string g.title, .string g.link, .int .i64 g.upd, .slice q2 g.ents.length d2] 25 := by rw [hV1, hrB]; exact mblk_new _ _ _
          have D1 : Below Wd.heap.size Wd V1 := D0.trans (bb.mono D0.size)
          have GrB : Wd.heap.size ≤ rB := by rw [hrB]; exact D0.size
          have SD1 := HSB.out _ _ D1 SD0
          simp only [← hV1, ← hrB]
          refine hK _ _ SD1 ?_
          clear hK K' hV1 hrB bb D0
          try simp only [Act.put, List.setIfInBounds_toArray, List.set_cons_zero, List.set_cons_succ]
          refine anyL_take (i := 5) (oi := { dst := some 46, op := Go.Op.build 33 #[(0, Go.Operand.tmp 45)], type := 33, pos := "law.go:70", after := #[{ on := 4, ground := Go.Ground.data }, { on := 8, ground := Go.Ground.gcOnly Go.Departure.lateStores }], guard := none }) (v := ?_) rfl (by decide) (by kernel_rfl) (by kernel_rfl) (by kernel_rfl) (by kernel_rfl) (fun _ _ _ h => h) (Or.inl ⟨by rfl, ?_⟩) SD1 ?_
          rotate_left
          · intro wz hSz
            skip
            go_simp
            (try with_reducible rfl)
          try simp only [Act.put, List.setIfInBounds_toArray, List.set_cons_zero, List.set_cons_succ]
          refine anyL_ready (rs := [1, 6, 7]) (by kernel_rfl) (by simp) ?_
          refine AllL.cons (o := moC1) rfl (fun K' hK => ?_) (AllL.cons (o := moC6) rfl (fun K' hK => ?_) (AllL.cons (o := moC7) rfl (fun K' hK => ?_) AllL.nil))
          · rw [if_pos (by rfl)]
            unfold moC1
            go_simp
            obtain ⟨V2, hV2⟩ : ∃ V, V = V1.alloc (.cells #[.slice p1 f.path.length c1, .string f.id, .string f.title, .string f.link, .int .i64 f.upd, .slice q1 f.ents.length d1] 25) := ⟨_, rfl⟩
            obtain ⟨rA, hrA⟩ : ∃ n, n = V1.heap.size := ⟨_, rfl⟩
            have bb : Below V1.heap.size V1 V2 := by rw [hV2]; exact (Below.refl _ _).alloc (Nat.le_refl _) _
            have M2_rA : MBlk V2 rA #[.slice p1 f.path.length c1, .string f.id, .string f.title, .string f.link, .int .i64 f.upd, .slice q1 f.ents.length d1] 25 := by rw [hV2, hrA]; exact mblk_new _ _ _
            have M2_rB := M1_rB.more bb
            have NrBrA : rB ≠ rA := by have := M1_rB.lt; omega
            have D2 : Below Wd.heap.size Wd V2 := D1.trans (bb.mono D1.size)
            have GrA : Wd.heap.size ≤ rA := by rw [hrA]; exact D1.size
            have SD2 := HSB.out _ _ D2 SD0
            simp only [← hV2, ← hrA]
            refine hK _ _ SD2 ?_
            clear hK K' hV2 hrA bb D1 SD1 M1_rB
            try simp only [Act.put, List.setIfInBounds_toArray, List.set_cons_zero, List.set_cons_succ]
            refine anyL_take (i := 2) (oi := { dst := some 43, op := Go.Op.build 33 #[(0, Go.Operand.tmp 42)], type := 33, pos := "law.go:70", after := #[{ on := 1, ground := Go.Ground.data }], guard := none }) (v := ?_) rfl (by decide) (by kernel_rfl) (by kernel_rfl) (by kernel_rfl) (by kernel_rfl) (fun _ _ _ h => h) (Or.inl ⟨by rfl, ?_⟩) SD2 ?_
            rotate_left
            · intro wz hSz
              skip
              go_simp
              (try with_reducible rfl)
            try simp only [Act.put, List.setIfInBounds_toArray, List.set_cons_zero, List.set_cons_succ]
            refine anyL_ready (rs := [6, 7]) (by kernel_rfl) (by simp) ?_
            refine AllL.cons (o := moC6) rfl (fun K' hK => ?_) (AllL.cons (o := moC7) rfl (fun K' hK => ?_) AllL.nil)
            · rw [if_pos (by rfl)]
              unfold moC6
              go_simp
              obtain ⟨V3, hV3⟩ : ∃ V, V = V2.alloc (.cells #[.slice none 0 0] 33) := ⟨_, rfl⟩
              obtain ⟨bA, hbA⟩ : ∃ n, n = V2.heap.size := ⟨_, rfl⟩
              have bb : Below V2.heap.size V2 V3 := by rw [hV3]; exact (Below.refl _ _).alloc (Nat.le_refl _) _
              have M3_bA : MBlk V3 bA #[.slice none 0 0] 33 := by rw [hV3, hbA]; exact mblk_new _ _ _
              have M3_rB := M2_rB.more bb
              have NrBbA : rB ≠ bA := by have := M2_rB.lt; omega
              have M3_rA := M2_rA.more bb
              have NrAbA : rA ≠ bA := by have := M2_rA.lt; omega
              have D3 : Below Wd.heap.size Wd V3 := D2.trans (bb.mono D2.size)
              have GbA : Wd.heap.size ≤ bA := by rw [hbA]; exact D2.size
              have SD3 := HSB.out _ _ D3 SD0
              simp only [← hV3, ← hbA]
              refine hK _ _ SD3 ?_
              clear hK K' hV3 hbA bb D2 SD2 M2_rB M2_rA
              try simp only [Act.put, List.setIfInBounds_toArray, List.set_cons_zero, List.set_cons_succ]
              refine anyL_ready (rs := [7]) (by kernel_rfl) (by simp) ?_
              refine AllL.cons (o := moC7) rfl (fun K' hK => ?_) AllL.nil
              rw [if_pos (by rfl)]
              unfold moC7
              go_simp
              obtain ⟨V4, hV4⟩ : ∃ V, V = V3.alloc (.cells #[.slice none 0 0] 33) := ⟨_, rfl⟩
              obtain ⟨bB, hbB⟩ : ∃ n, n = V3.heap.size := ⟨_, rfl⟩
              have bb : Below V3.heap.size V3 V4 := by rw [hV4]; exact (Below.refl _ _).alloc (Nat.le_refl _) _
              have M4_bB : MBlk V4 bB #[.slice none 0 0] 33 := by rw [hV4, hbB]; exact mblk_new _ _ _
              have M4_rB := M3_rB.more bb
              have NrBbB : rB ≠ bB := by have := M3_rB.lt; omega
              have M4_rA := M3_rA.more bb
              have NrAbB : rA ≠ bB := by have := M3_rA.lt; omega
              have M4_bA := M3_bA.more bb
              have NbAbB : bA ≠ bB := by have := M3_bA.lt; omega
              have D4 : Below Wd.heap.size Wd V4 := D3.trans (bb.mono D3.size)
              have GbB : Wd.heap.size ≤ bB := by rw [hbB]; exact D3.size
              have SD4 := HSB.out _ _ D4 SD0
              simp only [← hV4, ← hbB]
              refine hK _ _ SD4 ?_
              clear hK K' hV4 hbB bb D3 SD3 M3_rB M3_rA M3_bA
              try simp only [Act.put, List.setIfInBounds_toArray, List.set_cons_zero, List.set_cons_succ]
              refine anyL_ready (rs := [8]) (by kernel_rfl) (by simp) ?_
              refine AllL.cons (o := moC8) rfl (fun K' hK => ?_) AllL.nil
              rw [if_pos (by rfl)]
              unfold moC8
              have r0 := M4_bA.cell 0
              simp only [List.getElem?_toArray, List.getElem?_cons_zero] at r0
              have t0 := M4_bA.fr 0
              go_simp
              obtain ⟨V5, hV5⟩ : ∃ V, V = V4.setCell ⟨bA, 0, none⟩ (.slice (some ⟨rA, 0, none⟩) 1 1) := ⟨_, rfl⟩
              have M5_bA : MBlk V5 bA #[.slice (some ⟨rA, 0, none⟩) 1 1] 33 := by rw [hV5]; exact mblk_one M4_bA _
              have M5_rB := (show MBlk V5 rB _ _ by rw [hV5]; exact mblk_far M4_rB (by first | exact NrBbA | exact fun e => NbArB e.symm) _)
              have M5_rA := (show MBlk V5 rA _ _ by rw [hV5]; exact mblk_far M4_rA (by first | exact NrAbA | exact fun e => NbArA e.symm) _)
              have M5_bB := (show MBlk V5 bB _ _ by rw [hV5]; exact mblk_far M4_bB (by first | exact NbBbA | exact fun e => NbAbB e.symm) _)
              have D5 : Below Wd.heap.size Wd V5 := by rw [hV5]; exact D4.setCell (p := ⟨bA, 0, none⟩) GbA _
              have SD5 := HSB.out _ _ D5 SD0
              simp only [← hV5]
              refine hK _ _ SD5 ?_
              clear hK K' hV5 r0 t0 D4 SD4 M4_rB M4_rA M4_bA M4_bB
              try simp only [Act.put, List.setIfInBounds_toArray, List.set_cons_zero, List.set_cons_succ]
              refine anyL_ready (rs := [9]) (by kernel_rfl) (by simp) ?_
              refine AllL.cons (o := moC9) rfl (fun K' hK => ?_) AllL.nil
              rw [if_pos (by rfl)]
              unfold moC9
              have r0 := M5_bB.cell 0
              simp only [List.getElem?_toArray, List.getElem?_cons_zero] at r0
              have t0 := M5_bB.fr 0
              go_simp
              obtain ⟨V6, hV6⟩ : ∃ V, V = V5.setCell ⟨bB, 0, none⟩ (.slice (some ⟨rB, 0, none⟩) 1 1) := ⟨_, rfl⟩
              have M6_bB : MBlk V6 bB #[.slice (some ⟨rB, 0, none⟩) 1 1] 33 := by rw [hV6]; exact mblk_one M5_bB _
              have M6_rB := (show MBlk V6 rB _ _ by rw [hV6]; exact mblk_far M5_rB (by first | exact NrBbB | exact fun e => NbBrB e.symm) _)
              have M6_rA := (show MBlk V6 rA _ _ by rw [hV6]; exact mblk_far M5_rA (by first | exact NrAbB | exact fun e => NbBrA e.symm) _)
              have M6_bA := (show MBlk V6 bA _ _ by rw [hV6]; exact mblk_far M5_bA (by first | exact NbAbB | exact fun e => NbBbA e.symm) _)
              have D6 : Below Wd.heap.size Wd V6 := by rw [hV6]; exact D5.setCell (p := ⟨bB, 0, none⟩) GbB _
              have SD6 := HSB.out _ _ D6 SD0
              simp only [← hV6]
              refine hK _ _ SD6 ?_
              clear hK K' hV6 r0 t0 D5 SD5 M5_rB M5_rA M5_bA M5_bB
              try simp only [Act.put, List.setIfInBounds_toArray, List.set_cons_zero, List.set_cons_succ]
              refine anyL_done (by kernel_rfl) ?_ _
              go_wp2
              go_meet
              exact ⟨bA, bB, rA, rB, rfl, rfl, M6_bA, M6_bB, M6_rA, M6_rB, SD6, HB.out.trans (D6.mono HB.out.size)⟩
            · rw [if_pos (by rfl)]
              unfold moC7
              go_simp
              obtain ⟨V3, hV3⟩ : ∃ V, V = V2.alloc (.cells #[.slice none 0 0] 33) := ⟨_, rfl⟩
              obtain ⟨bB, hbB⟩ : ∃ n, n = V2.heap.size := ⟨_, rfl⟩
              have bb : Below V2.heap.size V2 V3 := by rw [hV3]; exact (Below.refl _ _).alloc (Nat.le_refl _) _
              have M3_bB : MBlk V3 bB #[.slice none 0 0] 33 := by rw [hV3, hbB]; exact mblk_new _ _ _
              have M3_rB := M2_rB.more bb
              have NrBbB : rB ≠ bB := by have := M2_rB.lt; omega
              have M3_rA := M2_rA.more bb
              have NrAbB : rA ≠ bB := by have := M2_rA.lt; omega
              have D3 : Below Wd.heap.size Wd V3 := D2.trans (bb.mono D2.size)
              have GbB : Wd.heap.size ≤ bB := by rw [hbB]; exact D2.size
              have SD3 := HSB.out _ _ D3 SD0
              simp only [← hV3, ← hbB]
              refine hK _ _ SD3 ?_
              clear hK K' hV3 hbB bb D2 SD2 M2_rB M2_rA
              try simp only [Act.put, List.setIfInBounds_toArray, List.set_cons_zero, List.set_cons_succ]
              refine anyL_ready (rs := [6]) (by kernel_rfl) (by simp) ?_
              refine AllL.cons (o := moC6) rfl (fun K' hK => ?_) AllL.nil
              rw [if_pos (by rfl)]
              unfold moC6
              go_simp
              obtain ⟨V4, hV4⟩ : ∃ V, V = V3.alloc (.cells #[.slice none 0 0] 33) := ⟨_, rfl⟩
              obtain ⟨bA, hbA⟩ : ∃ n, n = V3.heap.size := ⟨_, rfl⟩
              have bb : Below V3.heap.size V3 V4 := by rw [hV4]; exact (Below.refl _ _).alloc (Nat.le_refl _) _
              have M4_bA : MBlk V4 bA #[.slice none 0 0] 33 := by rw [hV4, hbA]; exact mblk_new _ _ _
              have M4_rB := M3_rB.more bb
              have NrBbA : rB ≠ bA := by have := M3_rB.lt; omega
              have M4_rA := M3_rA.more bb
              have NrAbA : rA ≠ bA := by have := M3_rA.lt; omega
              have M4_bB := M3_bB.more bb
              have NbBbA : bB ≠ bA := by have := M3_bB.lt; omega
              have D4 : Below Wd.heap.size Wd V4 := D3.trans (bb.mono D3.size)
              have GbA : Wd.heap.size ≤ bA := by rw [hbA]; exact D3.size
              have SD4 := HSB.out _ _ D4 SD0
              simp only [← hV4, ← hbA]
              refine hK _ _ SD4 ?_
              clear hK K' hV4 hbA bb D3 SD3 M3_rB M3_rA M3_bB
              try simp only [Act.put, List.setIfInBounds_toArray, List.set_cons_zero, List.set_cons_succ]
              refine anyL_ready (rs := [8]) (by kernel_rfl) (by simp) ?_
              refine AllL.cons (o := moC8) rfl (fun K' hK => ?_) AllL.nil
              rw [if_pos (by rfl)]
              unfold moC8
              have r0 := M4_bA.cell 0
              simp only [List.getElem?_toArray, List.getElem?_cons_zero] at r0
              have t0 := M4_bA.fr 0
              go_simp
              obtain ⟨V5, hV5⟩ : ∃ V, V = V4.setCell ⟨bA, 0, none⟩ (.slice (some ⟨rA, 0, none⟩) 1 1) := ⟨_, rfl⟩
              have M5_bA : MBlk V5 bA #[.slice (some ⟨rA, 0, none⟩) 1 1] 33 := by rw [hV5]; exact mblk_one M4_bA _
              have M5_rB := (show MBlk V5 rB _ _ by rw [hV5]; exact mblk_far M4_rB (by first | exact NrBbA | exact fun e => NbArB e.symm) _)
              have M5_rA := (show MBlk V5 rA _ _ by rw [hV5]; exact mblk_far M4_rA (by first | exact NrAbA | exact fun e => NbArA e.symm) _)
              have M5_bB := (show MBlk V5 bB _ _ by rw [hV5]; exact mblk_far M4_bB (by first | exact NbBbA | exact fun e => NbAbB e.symm) _)
              have D5 : Below Wd.heap.size Wd V5 := by rw [hV5]; exact D4.setCell (p := ⟨bA, 0, none⟩) GbA _
              have SD5 := HSB.out _ _ D5 SD0
              simp only [← hV5]
              refine hK _ _ SD5 ?_
              clear hK K' hV5 r0 t0 D4 SD4 M4_rB M4_rA M4_bB M4_bA
              try simp only [Act.put, List.setIfInBounds_toArray, List.set_cons_zero, List.set_cons_succ]
              refine anyL_ready (rs := [9]) (by kernel_rfl) (by simp) ?_
              refine AllL.cons (o := moC9) rfl (fun K' hK => ?_) AllL.nil
              rw [if_pos (by rfl)]
              unfold moC9
              have r0 := M5_bB.cell 0
              simp only [List.getElem?_toArray, List.getElem?_cons_zero] at r0
              have t0 := M5_bB.fr 0
              go_simp
              obtain ⟨V6, hV6⟩ : ∃ V, V = V5.setCell ⟨bB, 0, none⟩ (.slice (some ⟨rB, 0, none⟩) 1 1) := ⟨_, rfl⟩
              have M6_bB : MBlk V6 bB #[.slice (some ⟨rB, 0, none⟩) 1 1] 33 := by rw [hV6]; exact mblk_one M5_bB _
              have M6_rB := (show MBlk V6 rB _ _ by rw [hV6]; exact mblk_far M5_rB (by first | exact NrBbB | exact fun e => NbBrB e.symm) _)
              have M6_rA := (show MBlk V6 rA _ _ by rw [hV6]; exact mblk_far M5_rA (by first | exact NrAbB | exact fun e => NbBrA e.symm) _)
              have M6_bA := (show MBlk V6 bA _ _ by rw [hV6]; exact mblk_far M5_bA (by first | exact NbAbB | exact fun e => NbBbA e.symm) _)
              have D6 : Below Wd.heap.size Wd V6 := by rw [hV6]; exact D5.setCell (p := ⟨bB, 0, none⟩) GbB _
              have SD6 := HSB.out _ _ D6 SD0
              simp only [← hV6]
              refine hK _ _ SD6 ?_
              clear hK K' hV6 r0 t0 D5 SD5 M5_rB M5_rA M5_bB M5_bA
              try simp only [Act.put, List.setIfInBounds_toArray, List.set_cons_zero, List.set_cons_succ]
              refine anyL_done (by kernel_rfl) ?_ _
              go_wp2
              go_meet
              exact ⟨bA, bB, rA, rB, rfl, rfl, M6_bA, M6_bB, M6_rA, M6_rB, SD6, HB.out.trans (D6.mono HB.out.size)⟩
          · rw [if_pos (by rfl)]
            unfold moC6
            go_simp
            obtain ⟨V2, hV2⟩ : ∃ V, V = V1.alloc (.cells #[.slice none 0 0] 33) := ⟨_, rfl⟩
            obtain ⟨bA, hbA⟩ : ∃ n, n = V1.heap.size := ⟨_, rfl⟩
            have bb : Below V1.heap.size V1 V2 := by rw [hV2]; exact (Below.refl _ _).alloc (Nat.le_refl _) _
            have M2_bA : MBlk V2 bA #[.slice none 0 0] 33 := by rw [hV2, hbA]; exact mblk_new _ _ _
            have M2_rB := M1_rB.more bb
            have NrBbA : rB ≠ bA := by have := M1_rB.lt; omega
            have D2 : Below Wd.heap.size Wd V2 := D1.trans (bb.mono D1.size)
            have GbA : Wd.heap.size ≤ bA := by rw [hbA]; exact D1.size
            have SD2 := HSB.out _ _ D2 SD0
            simp only [← hV2, ← hbA]
            refine hK _ _ SD2 ?_
            clear hK K' hV2 hbA bb D1 SD1 M1_rB
            try simp only [Act.put, List.setIfInBounds_toArray, List.set_cons_zero, List.set_cons_succ]
            refine anyL_ready (rs := [1, 7]) (by kernel_rfl) (by simp) ?_
            refine AllL.cons (o := moC1) rfl (fun K' hK => ?_) (AllL.cons (o := moC7) rfl (fun K' hK => ?_) AllL.nil)
            · rw [if_pos (by rfl)]
              unfold moC1
              go_simp
              obtain ⟨V3, hV3⟩ : ∃ V, V = V2.alloc (.cells #[.slice p1 f.path.length c1, .string f.id, .string f.title, .string f.link, .int .i64 f.upd, .slice q1 f.ents.length d1] 25) := ⟨_, rfl⟩
              obtain ⟨rA, hrA⟩ : ∃ n, n = V2.heap.size := ⟨_, rfl⟩
              have bb : Below V2.heap.size V2 V3 := by rw [hV3]; exact (Below.refl _ _).alloc (Nat.le_refl _) _
              have M3_rA : MBlk V3 rA #[.slice p1 f.path.length c1, .string f.id, .string f.title, .string f.link, .int .i64 f.upd, .slice q1 f.ents.length d1] 25 := by rw [hV3, hrA]; exact mblk_new _ _ _
              have M3_rB := M2_rB.more bb
              have NrBrA : rB ≠ rA := by have := M2_rB.lt; omega
              have M3_bA := M2_bA.more bb
              have NbArA : bA ≠ rA := by have := M2_bA.lt; omega
              have D3 : Below Wd.heap.size Wd V3 := D2.trans (bb.mono D2.size)
              have GrA : Wd.heap.size ≤ rA := by rw [hrA]; exact D2.size
              have SD3 := HSB.out _ _ D3 SD0
              simp only [← hV3, ← hrA]
              refine hK _ _ SD3 ?_
              clear hK K' hV3 hrA bb D2 SD2 M2_rB M2_bA
              try simp only [Act.put, List.setIfInBounds_toArray, List.set_cons_zero, List.set_cons_succ]
              refine anyL_take (i := 2) (oi := { dst := some 43, op := Go.Op.build 33 #[(0, Go.Operand.tmp 42)], type := 33, pos := "law.go:70", after := #[{ on := 1, ground := Go.Ground.data }], guard := none }) (v := ?_) rfl (by decide) (by kernel_rfl) (by kernel_rfl) (by kernel_rfl) (by kernel_rfl) (fun _ _ _ h => h) (Or.inl ⟨by rfl, ?_⟩) SD3 ?_
              rotate_left
              · intro wz hSz
                skip
                go_simp
                (try with_reducible rfl)
              try simp only [Act.put, List.setIfInBounds_toArray, List.set_cons_zero, List.set_cons_succ]
              refine anyL_ready (rs := [7]) (by kernel_rfl) (by simp) ?_
              refine AllL.cons (o := moC7) rfl (fun K' hK => ?_) AllL.nil
              rw [if_pos (by rfl)]
              unfold moC7
              go_simp
              obtain ⟨V4, hV4⟩ : ∃ V, V = V3.alloc (.cells #[.slice none 0 0] 33) := ⟨_, rfl⟩
              obtain ⟨bB, hbB⟩ : ∃ n, n = V3.heap.size := ⟨_, rfl⟩
              have bb : Below V3.heap.size V3 V4 := by rw [hV4]; exact (Below.refl _ _).alloc (Nat.le_refl _) _
              have M4_bB : MBlk V4 bB #[.slice none 0 0] 33 := by rw [hV4, hbB]; exact mblk_new _ _ _
              have M4_rB := M3_rB.more bb
              have NrBbB : rB ≠ bB := by have := M3_rB.lt; omega
              have M4_bA := M3_bA.more bb
              have NbAbB : bA ≠ bB := by have := M3_bA.lt; omega
              have M4_rA := M3_rA.more bb
              have NrAbB : rA ≠ bB := by have := M3_rA.lt; omega
              have D4 : Below Wd.heap.size Wd V4 := D3.trans (bb.mono D3.size)
              have GbB : Wd.heap.size ≤ bB := by rw [hbB]; exact D3.size
              have SD4 := HSB.out _ _ D4 SD0
              simp only [← hV4, ← hbB]
              refine hK _ _ SD4 ?_
              clear hK K' hV4 hbB bb D3 SD3 M3_rB M3_bA M3_rA
              try simp only [Act.put, List.setIfInBounds_toArray, List.set_cons_zero, List.set_cons_succ]
              refine anyL_ready (rs := [8]) (by kernel_rfl) (by simp) ?_
              refine AllL.cons (o := moC8) rfl (fun K' hK => ?_) AllL.nil
              rw [if_pos (by rfl)]
              unfold moC8
              have r0 := M4_bA.cell 0
              simp only [List.getElem?_toArray, List.getElem?_cons_zero] at r0
              have t0 := M4_bA.fr 0
              go_simp
              obtain ⟨V5, hV5⟩ : ∃ V, V = V4.setCell ⟨bA, 0, none⟩ (.slice (some ⟨rA, 0, none⟩) 1 1) := ⟨_, rfl⟩
              have M5_bA : MBlk V5 bA #[.slice (some ⟨rA, 0, none⟩) 1 1] 33 := by rw [hV5]; exact mblk_one M4_bA _
              have M5_rB := (show MBlk V5 rB _ _ by rw [hV5]; exact mblk_far M4_rB (by first | exact NrBbA | exact fun e => NbArB e.symm) _)
              have M5_rA := (show MBlk V5 rA _ _ by rw [hV5]; exact mblk_far M4_rA (by first | exact NrAbA | exact fun e => NbArA e.symm) _)
              have M5_bB := (show MBlk V5 bB _ _ by rw [hV5]; exact mblk_far M4_bB (by first | exact NbBbA | exact fun e => NbAbB e.symm) _)
              have D5 : Below Wd.heap.size Wd V5 := by rw [hV5]; exact D4.setCell (p := ⟨bA, 0, none⟩) GbA _
              have SD5 := HSB.out _ _ D5 SD0
              simp only [← hV5]
              refine hK _ _ SD5 ?_
              clear hK K' hV5 r0 t0 D4 SD4 M4_rB M4_bA M4_rA M4_bB
              try simp only [Act.put, List.setIfInBounds_toArray, List.set_cons_zero, List.set_cons_succ]
              refine anyL_ready (rs := [9]) (by kernel_rfl) (by simp) ?_
              refine AllL.cons (o := moC9) rfl (fun K' hK => ?_) AllL.nil
              rw [if_pos (by rfl)]
              unfold moC9
              have r0 := M5_bB.cell 0
              simp only [List.getElem?_toArray, List.getElem?_cons_zero] at r0
              have t0 := M5_bB.fr 0
              go_simp
              obtain ⟨V6, hV6⟩ : ∃ V, V = V5.setCell ⟨bB, 0, none⟩ (.slice (some ⟨rB, 0, none⟩) 1 1) := ⟨_, rfl⟩
              have M6_bB : MBlk V6 bB #[.slice (some ⟨rB, 0, none⟩) 1 1] 33 := by rw [hV6]; exact mblk_one M5_bB _
              have M6_rB := (show MBlk V6 rB _ _ by rw [hV6]; exact mblk_far M5_rB (by first | exact NrBbB | exact fun e => NbBrB e.symm) _)
              have M6_bA := (show MBlk V6 bA _ _ by rw [hV6]; exact mblk_far M5_bA (by first | exact NbAbB | exact fun e => NbBbA e.symm) _)
              have M6_rA := (show MBlk V6 rA _ _ by rw [hV6]; exact mblk_far M5_rA (by first | exact NrAbB | exact fun e => NbBrA e.symm) _)
              have D6 : Below Wd.heap.size Wd V6 := by rw [hV6]; exact D5.setCell (p := ⟨bB, 0, none⟩) GbB _
              have SD6 := HSB.out _ _ D6 SD0
              simp only [← hV6]
              refine hK _ _ SD6 ?_
              clear hK K' hV6 r0 t0 D5 SD5 M5_rB M5_bA M5_rA M5_bB
              try simp only [Act.put, List.setIfInBounds_toArray, List.set_cons_zero, List.set_cons_succ]
              refine anyL_done (by kernel_rfl) ?_ _
              go_wp2
              go_meet
              exact ⟨bA, bB, rA, rB, rfl, rfl, M6_bA, M6_bB, M6_rA, M6_rB, SD6, HB.out.trans (D6.mono HB.out.size)⟩
            · rw [if_pos (by rfl)]
              unfold moC7
              go_simp
              obtain ⟨V3, hV3⟩ : ∃ V, V = V2.alloc (.cells #[.slice none 0 0] 33) := ⟨_, rfl⟩
              obtain ⟨bB, hbB⟩ : ∃ n, n = V2.heap.size := ⟨_, rfl⟩
              have bb : Below V2.heap.size V2 V3 := by rw [hV3]; exact (Below.refl _ _).alloc (Nat.le_refl _) _
              have M3_bB : MBlk V3 bB #[.slice none 0 0] 33 := by rw [hV3, hbB]; exact mblk_new _ _ _
              have M3_rB := M2_rB.more bb
              have NrBbB : rB ≠ bB := by have := M2_rB.lt; omega
              have M3_bA := M2_bA.more bb
              have NbAbB : bA ≠ bB := by have := M2_bA.lt; omega
              have D3 : Below Wd.heap.size Wd V3 := D2.trans (bb.mono D2.size)
              have GbB : Wd.heap.size ≤ bB := by rw [hbB]; exact D2.size
              have SD3 := HSB.out _ _ D3 SD0
              simp only [← hV3, ← hbB]
              refine hK _ _ SD3 ?_
              clear hK K' hV3 hbB bb D2 SD2 M2_rB M2_bA
              try simp only [Act.put, List.setIfInBounds_toArray, List.set_cons_zero, List.set_cons_succ]
              refine anyL_ready (rs := [1]) (by kernel_rfl) (by simp) ?_
              refine AllL.cons (o := moC1) rfl (fun K' hK => ?_) AllL.nil
              rw [if_pos (by rfl)]
              unfold moC1
              go_simp
              obtain ⟨V4, hV4⟩ : ∃ V, V = V3.alloc (.cells #[.slice p1 f.path.length c1, .string f.id, .string f.title, .string f.link, .int .i64 f.upd, .slice q1 f.ents.length d1] 25) := ⟨_, rfl⟩
              obtain ⟨rA, hrA⟩ : ∃ n, n = V3.heap.size := ⟨_, rfl⟩
              have bb : Below V3.heap.size V3 V4 := by rw [hV4]; exact (Below.refl _ _).alloc (Nat.le_refl _) _
              have M4_rA : MBlk V4 rA #[.slice p1 f.path.length c1, .string f.id, .string f.title, .string f.link, .int .i64 f.upd, .slice q1 f.ents.length d1] 25 := by rw [hV4, hrA]; exact mblk_new _ _ _
              have M4_rB := M3_rB.more bb
              have NrBrA : rB ≠ rA := by have := M3_rB.lt; omega
              have M4_bA := M3_bA.more bb
              have NbArA : bA ≠ rA := by have := M3_bA.lt; omega
              have M4_bB := M3_bB.more bb
              have NbBrA : bB ≠ rA := by have := M3_bB.lt; omega
              have D4 : Below Wd.heap.size Wd V4 := D3.trans (bb.mono D3.size)
              have GrA : Wd.heap.size ≤ rA := by rw [hrA]; exact D3.size
              have SD4 := HSB.out _ _ D4 SD0
              simp only [← hV4, ← hrA]
              refine hK _ _ SD4 ?_
              clear hK K' hV4 hrA bb D3 SD3 M3_rB M3_bA M3_bB
              try simp only [Act.put, List.setIfInBounds_toArray, List.set_cons_zero, List.set_cons_succ]
              refine anyL_take (i := 2) (oi := { dst := some 43, op := Go.Op.build 33 #[(0, Go.Operand.tmp 42)], type := 33, pos := "law.go:70", after := #[{ on := 1, ground := Go.Ground.data }], guard := none }) (v := ?_) rfl (by decide) (by kernel_rfl) (by kernel_rfl) (by kernel_rfl) (by kernel_rfl) (fun _ _ _ h => h) (Or.inl ⟨by rfl, ?_⟩) SD4 ?_
              rotate_left
              · intro wz hSz
                skip
                go_simp
                (try with_reducible rfl)
              try simp only [Act.put, List.setIfInBounds_toArray, List.set_cons_zero, List.set_cons_succ]
              refine anyL_ready (rs := [8]) (by kernel_rfl) (by simp) ?_
              refine AllL.cons (o := moC8) rfl (fun K' hK => ?_) AllL.nil
              rw [if_pos (by rfl)]
              unfold moC8
              have r0 := M4_bA.cell 0
              simp only [List.getElem?_toArray, List.getElem?_cons_zero] at r0
              have t0 := M4_bA.fr 0
              go_simp
              obtain ⟨V5, hV5⟩ : ∃ V, V = V4.setCell ⟨bA, 0, none⟩ (.slice (some ⟨rA, 0, none⟩) 1 1) := ⟨_, rfl⟩
              have M5_bA : MBlk V5 bA #[.slice (some ⟨rA, 0, none⟩) 1 1] 33 := by rw [hV5]; exact mblk_one M4_bA _
              have M5_rB := (show MBlk V5 rB _ _ by rw [hV5]; exact mblk_far M4_rB (by first | exact NrBbA | exact fun e => NbArB e.symm) _)
              have M5_bB := (show MBlk V5 bB _ _ by rw [hV5]; exact mblk_far M4_bB (by first | exact NbBbA | exact fun e => NbAbB e.symm) _)
              have M5_rA := (show MBlk V5 rA _ _ by rw [hV5]; exact mblk_far M4_rA (by first | exact NrAbA | exact fun e => NbArA e.symm) _)
              have D5 : Below Wd.heap.size Wd V5 := by rw [hV5]; exact D4.setCell (p := ⟨bA, 0, none⟩) GbA _
              have SD5 := HSB.out _ _ D5 SD0
              simp only [← hV5]
              refine hK _ _ SD5 ?_
              clear hK K' hV5 r0 t0 D4 SD4 M4_rB M4_bA M4_bB M4_rA
              try simp only [Act.put, List.setIfInBounds_toArray, List.set_cons_zero, List.set_cons_succ]
              refine anyL_ready (rs := [9]) (by kernel_rfl) (by simp) ?_
              refine AllL.cons (o := moC9) rfl (fun K' hK => ?_) AllL.nil
              rw [if_pos (by rfl)]
              unfold moC9
              have r0 := M5_bB.cell 0
              simp only [List.getElem?_toArray, List.getElem?_cons_zero] at r0
              have t0 := M5_bB.fr 0
              go_simp
              obtain ⟨V6, hV6⟩ : ∃ V, V = V5.setCell ⟨bB, 0, none⟩ (.slice (some ⟨rB, 0, none⟩) 1 1) := ⟨_, rfl⟩
              have M6_bB : MBlk V6 bB #[.slice (some ⟨rB, 0, none⟩) 1 1] 33 := by rw [hV6]; exact mblk_one M5_bB _
              have M6_rB := (show MBlk V6 rB _ _ by rw [hV6]; exact mblk_far M5_rB (by first | exact NrBbB | exact fun e => NbBrB e.symm) _)
              have M6_bA := (show MBlk V6 bA _ _ by rw [hV6]; exact mblk_far M5_bA (by first | exact NbAbB | exact fun e => NbBbA e.symm) _)
              have M6_rA := (show MBlk V6 rA _ _ by rw [hV6]; exact mblk_far M5_rA (by first | exact NrAbB | exact fun e => NbBrA e.symm) _)
              have D6 : Below Wd.heap.size Wd V6 := by rw [hV6]; exact D5.setCell (p := ⟨bB, 0, none⟩) GbB _
              have SD6 := HSB.out _ _ D6 SD0
              simp only [← hV6]
              refine hK _ _ SD6 ?_
              clear hK K' hV6 r0 t0 D5 SD5 M5_rB M5_bA M5_bB M5_rA
              try simp only [Act.put, List.setIfInBounds_toArray, List.set_cons_zero, List.set_cons_succ]
              refine anyL_done (by kernel_rfl) ?_ _
              go_wp2
              go_meet
              exact ⟨bA, bB, rA, rB, rfl, rfl, M6_bA, M6_bB, M6_rA, M6_rB, SD6, HB.out.trans (D6.mono HB.out.size)⟩
          · rw [if_pos (by rfl)]
            unfold moC7
            go_simp
            obtain ⟨V2, hV2⟩ : ∃ V, V = V1.alloc (.cells #[.slice none 0 0] 33) := ⟨_, rfl⟩
            obtain ⟨bB, hbB⟩ : ∃ n, n = V1.heap.size := ⟨_, rfl⟩
            have bb : Below V1.heap.size V1 V2 := by rw [hV2]; exact (Below.refl _ _).alloc (Nat.le_refl _) _
            have M2_bB : MBlk V2 bB #[.slice none 0 0] 33 := by rw [hV2, hbB]; exact mblk_new _ _ _
            have M2_rB := M1_rB.more bb
            have NrBbB : rB ≠ bB := by have := M1_rB.lt; omega
            have D2 : Below Wd.heap.size Wd V2 := D1.trans (bb.mono D1.size)
            have GbB : Wd.heap.size ≤ bB := by rw [hbB]; exact D1.size
            have SD2 := HSB.out _ _ D2 SD0
            simp only [← hV2, ← hbB]
            refine hK _ _ SD2 ?_
            clear hK K' hV2 hbB bb D1 SD1 M1_rB
            try simp only [Act.put, List.setIfInBounds_toArray, List.set_cons_zero, List.set_cons_succ]
            refine anyL_ready (rs := [1, 6]) (by kernel_rfl) (by simp) ?_
            refine AllL.cons (o := moC1) rfl (fun K' hK => ?_) (AllL.cons (o := moC6) rfl (fun K' hK => ?_) AllL.nil)
            · rw [if_pos (by rfl)]
              unfold moC1
              go_simp
              obtain ⟨V3, hV3⟩ : ∃ V, V = V2.alloc (.cells #[.slice p1 f.path.length c1, .string f.id, .string f.title, .string f.link, .int .i64 f.upd, .slice q1 f.ents.length d1] 25) := ⟨_, rfl⟩
              obtain ⟨rA, hrA⟩ : ∃ n, n = V2.heap.size := ⟨_, rfl⟩
              have bb : Below V2.heap.size V2 V3 := by rw [hV3]; exact (Below.refl _ _).alloc (Nat.le_refl _) _
              have M3_rA : MBlk V3 rA #[.slice p1 f.path.length c1, .string f.id, .string f.title, .string f.link, .int .i64 f.upd, .slice q1 f.ents.length d1] 25 := by rw [hV3, hrA]; exact mblk_new _ _ _
              have M3_rB := M2_rB.more bb
              have NrBrA : rB ≠ rA := by have := M2_rB.lt; omega
              have M3_bB := M2_bB.more bb
              have NbBrA : bB ≠ rA := by have := M2_bB.lt; omega
              have D3 : Below Wd.heap.size Wd V3 := D2.trans (bb.mono D2.size)
              have GrA : Wd.heap.size ≤ rA := by rw [hrA]; exact D2.size
              have SD3 := HSB.out _ _ D3 SD0
              simp only [← hV3, ← hrA]
              refine hK _ _ SD3 ?_
              clear hK K' hV3 hrA bb D2 SD2 M2_rB M2_bB
              try simp only [Act.put, List.setIfInBounds_toArray, List.set_cons_zero, List.set_cons_succ]
              refine anyL_take (i := 2) (oi := { dst := some 43, op := Go.Op.build 33 #[(0, Go.Operand.tmp 42)], type := 33, pos := "law.go:70", after := #[{ on := 1, ground := Go.Ground.data }], guard := none }) (v := ?_) rfl (by decide) (by kernel_rfl) (by kernel_rfl) (by kernel_rfl) (by kernel_rfl) (fun _ _ _ h => h) (Or.inl ⟨by rfl, ?_⟩) SD3 ?_
              rotate_left
              · intro wz hSz
                skip
                go_simp
                (try with_reducible rfl)
              try simp only [Act.put, List.setIfInBounds_toArray, List.set_cons_zero, List.set_cons_succ]
              refine anyL_ready (rs := [6]) (by kernel_rfl) (by simp) ?_
              refine AllL.cons (o := moC6) rfl (fun K' hK => ?_) AllL.nil
              rw [if_pos (by rfl)]
              unfold moC6
              go_simp
              obtain ⟨V4, hV4⟩ : ∃ V, V = V3.alloc (.cells #[.slice none 0 0] 33) := ⟨_, rfl⟩
              obtain ⟨bA, hbA⟩ : ∃ n, n = V3.heap.size := ⟨_, rfl⟩
              have bb : Below V3.heap.size V3 V4 := by rw [hV4]; exact (Below.refl _ _).alloc (Nat.le_refl _) _
              have M4_bA : MBlk V4 bA #[.slice none 0 0] 33 := by rw [hV4, hbA]; exact mblk_new _ _ _
              have M4_rB := M3_rB.more bb
              have NrBbA : rB ≠ bA := by have := M3_rB.lt; omega
              have M4_bB := M3_bB.more bb
              have NbBbA : bB ≠ bA := by have := M3_bB.lt; omega
              have M4_rA := M3_rA.more bb
              have NrAbA : rA ≠ bA := by have := M3_rA.lt; omega
              have D4 : Below Wd.heap.size Wd V4 := D3.trans (bb.mono D3.size)
              have GbA : Wd.heap.size ≤ bA := by rw [hbA]; exact D3.size
              have SD4 := HSB.out _ _ D4 SD0
              simp only [← hV4, ← hbA]
              refine hK _ _ SD4 ?_
              clear hK K' hV4 hbA bb D3 SD3 M3_rB M3_bB M3_rA
              try simp only [Act.put, List.setIfInBounds_toArray, List.set_cons_zero, List.set_cons_succ]
              refine anyL_ready (rs := [8]) (by kernel_rfl) (by simp) ?_
              refine AllL.cons (o := moC8) rfl (fun K' hK => ?_) AllL.nil
              rw [if_pos (by rfl)]
              unfold moC8
              have r0 := M4_bA.cell 0
              simp only [List.getElem?_toArray, List.getElem?_cons_zero] at r0
              have t0 := M4_bA.fr 0
              go_simp
              obtain ⟨V5, hV5⟩ : ∃ V, V = V4.setCell ⟨bA, 0, none⟩ (.slice (some ⟨rA, 0, none⟩) 1 1) := ⟨_, rfl⟩
              have M5_bA : MBlk V5 bA #[.slice (some ⟨rA, 0, none⟩) 1 1] 33 := by rw [hV5]; exact mblk_one M4_bA _
              have M5_rB := (show MBlk V5 rB _ _ by rw [hV5]; exact mblk_far M4_rB (by first | exact NrBbA | exact fun e => NbArB e.symm) _)
              have M5_bB := (show MBlk V5 bB _ _ by rw [hV5]; exact mblk_far M4_bB (by first | exact NbBbA | exact fun e => NbAbB e.symm) _)
              have M5_rA := (show MBlk V5 rA _ _ by rw [hV5]; exact mblk_far M4_rA (by first | exact NrAbA | exact fun e => NbArA e.symm) _)
              have D5 : Below Wd.heap.size Wd V5 := by rw [hV5]; exact D4.setCell (p := ⟨bA, 0, none⟩) GbA _
              have SD5 := HSB.out _ _ D5 SD0
              simp only [← hV5]
              refine hK _ _ SD5 ?_
              clear hK K' hV5 r0 t0 D4 SD4 M4_rB M4_bB M4_rA M4_bA
              try simp only [Act.put, List.setIfInBounds_toArray, List.set_cons_zero, List.set_cons_succ]
              refine anyL_ready (rs := [9]) (by kernel_rfl) (by simp) ?_
              refine AllL.cons (o := moC9) rfl (fun K' hK => ?_) AllL.nil
              rw [if_pos (by rfl)]
              unfold moC9
              have r0 := M5_bB.cell 0
              simp only [List.getElem?_toArray, List.getElem?_cons_zero] at r0
              have t0 := M5_bB.fr 0
              go_simp
              obtain ⟨V6, hV6⟩ : ∃ V, V = V5.setCell ⟨bB, 0, none⟩ (.slice (some ⟨rB, 0, none⟩) 1 1) := ⟨_, rfl⟩
              have M6_bB : MBlk V6 bB #[.slice (some ⟨rB, 0, none⟩) 1 1] 33 := by rw [hV6]; exact mblk_one M5_bB _
              have M6_rB := (show MBlk V6 rB _ _ by rw [hV6]; exact mblk_far M5_rB (by first | exact NrBbB | exact fun e => NbBrB e.symm) _)
              have M6_rA := (show MBlk V6 rA _ _ by rw [hV6]; exact mblk_far M5_rA (by first | exact NrAbB | exact fun e => NbBrA e.symm) _)
              have M6_bA := (show MBlk V6 bA _ _ by rw [hV6]; exact mblk_far M5_bA (by first | exact NbAbB | exact fun e => NbBbA e.symm) _)
              have D6 : Below Wd.heap.size Wd V6 := by rw [hV6]; exact D5.setCell (p := ⟨bB, 0, none⟩) GbB _
              have SD6 := HSB.out _ _ D6 SD0
              simp only [← hV6]
              refine hK _ _ SD6 ?_
              clear hK K' hV6 r0 t0 D5 SD5 M5_rB M5_bB M5_rA M5_bA
              try simp only [Act.put, List.setIfInBounds_toArray, List.set_cons_zero, List.set_cons_succ]
              refine anyL_done (by kernel_rfl) ?_ _
              go_wp2
              go_meet
              exact ⟨bA, bB, rA, rB, rfl, rfl, M6_bA, M6_bB, M6_rA, M6_rB, SD6, HB.out.trans (D6.mono HB.out.size)⟩
            · rw [if_pos (by rfl)]
              unfold moC6
              go_simp
              obtain ⟨V3, hV3⟩ : ∃ V, V = V2.alloc (.cells #[.slice none 0 0] 33) := ⟨_, rfl⟩
              obtain ⟨bA, hbA⟩ : ∃ n, n = V2.heap.size := ⟨_, rfl⟩
              have bb : Below V2.heap.size V2 V3 := by rw [hV3]; exact (Below.refl _ _).alloc (Nat.le_refl _) _
              have M3_bA : MBlk V3 bA #[.slice none 0 0] 33 := by rw [hV3, hbA]; exact mblk_new _ _ _
              have M3_rB := M2_rB.more bb
              have NrBbA : rB ≠ bA := by have := M2_rB.lt; omega
              have M3_bB := M2_bB.more bb
              have NbBbA : bB ≠ bA := by have := M2_bB.lt; omega
              have D3 : Below Wd.heap.size Wd V3 := D2.trans (bb.mono D2.size)
              have GbA : Wd.heap.size ≤ bA := by rw [hbA]; exact D2.size
              have SD3 := HSB.out _ _ D3 SD0
              simp only [← hV3, ← hbA]
              refine hK _ _ SD3 ?_
              clear hK K' hV3 hbA bb D2 SD2 M2_rB M2_bB
              try simp only [Act.put, List.setIfInBounds_toArray, List.set_cons_zero, List.set_cons_succ]
              refine anyL_ready (rs := [1]) (by kernel_rfl) (by simp) ?_
              refine AllL.cons (o := moC1) rfl (fun K' hK => ?_) AllL.nil
              rw [if_pos (by rfl)]
              unfold moC1
              go_simp
              obtain ⟨V4, hV4⟩ : ∃ V, V = V3.alloc (.cells #[.slice p1 f.path.length c1, .string f.id, .string f.title, .string f.link, .int .i64 f.upd, .slice q1 f.ents.length d1] 25) := ⟨_, rfl⟩
              obtain ⟨rA, hrA⟩ : ∃ n, n = V3.heap.size := ⟨_, rfl⟩
              have bb : Below V3.heap.size V3 V4 := by rw [hV4]; exact (Below.refl _ _).alloc (Nat.le_refl _) _
              have M4_rA : MBlk V4 rA #[.slice p1 f.path.length c1, .string f.id, .string f.title, .string f.link, .int .i64 f.upd, .slice q1 f.ents.length d1] 25 := by rw [hV4, hrA]; exact mblk_new _ _ _
              have M4_rB := M3_rB.more bb
              have NrBrA : rB ≠ rA := by have := M3_rB.lt; omega
              have M4_bB := M3_bB.more bb
              have NbBrA : bB ≠ rA := by have := M3_bB.lt; omega
              have M4_bA := M3_bA.more bb
              have NbArA : bA ≠ rA := by have := M3_bA.lt; omega
              have D4 : Below Wd.heap.size Wd V4 := D3.trans (bb.mono D3.size)
              have GrA : Wd.heap.size ≤ rA := by rw [hrA]; exact D3.size
              have SD4 := HSB.out _ _ D4 SD0
              simp only [← hV4, ← hrA]
              refine hK _ _ SD4 ?_
              clear hK K' hV4 hrA bb D3 SD3 M3_rB M3_bB M3_bA
              try simp only [Act.put, List.setIfInBounds_toArray, List.set_cons_zero, List.set_cons_succ]
              refine anyL_take (i := 2) (oi := { dst := some 43, op := Go.Op.build 33 #[(0, Go.Operand.tmp 42)], type := 33, pos := "law.go:70", after := #[{ on := 1, ground := Go.Ground.data }], guard := none }) (v := ?_) rfl (by decide) (by kernel_rfl) (by kernel_rfl) (by kernel_rfl) (by kernel_rfl) (fun _ _ _ h => h) (Or.inl ⟨by rfl, ?_⟩) SD4 ?_
              rotate_left
              · intro wz hSz
                skip
                go_simp
                (try with_reducible rfl)
              try simp only [Act.put, List.setIfInBounds_toArray, List.set_cons_zero, List.set_cons_succ]
              refine anyL_ready (rs := [8]) (by kernel_rfl) (by simp) ?_
              refine AllL.cons (o := moC8) rfl (fun K' hK => ?_) AllL.nil
              rw [if_pos (by rfl)]
              unfold moC8
              have r0 := M4_bA.cell 0
              simp only [List.getElem?_toArray, List.getElem?_cons_zero] at r0
              have t0 := M4_bA.fr 0
              go_simp
              obtain ⟨V5, hV5⟩ : ∃ V, V = V4.setCell ⟨bA, 0, none⟩ (.slice (some ⟨rA, 0, none⟩) 1 1) := ⟨_, rfl⟩
              have M5_bA : MBlk V5 bA #[.slice (some ⟨rA, 0, none⟩) 1 1] 33 := by rw [hV5]; exact mblk_one M4_bA _
              have M5_rB := (show MBlk V5 rB _ _ by rw [hV5]; exact mblk_far M4_rB (by first | exact NrBbA | exact fun e => NbArB e.symm) _)
              have M5_bB := (show MBlk V5 bB _ _ by rw [hV5]; exact mblk_far M4_bB (by first | exact NbBbA | exact fun e => NbAbB e.symm) _)
              have M5_rA := (show MBlk V5 rA _ _ by rw [hV5]; exact mblk_far M4_rA (by first | exact NrAbA | exact fun e => NbArA e.symm) _)
              have D5 : Below Wd.heap.size Wd V5 := by rw [hV5]; exact D4.setCell (p := ⟨bA, 0, none⟩) GbA _
              have SD5 := HSB.out _ _ D5 SD0
              simp only [← hV5]
              refine hK _ _ SD5 ?_
              clear hK K' hV5 r0 t0 D4 SD4 M4_rB M4_bB M4_bA M4_rA
              try simp only [Act.put, List.setIfInBounds_toArray, List.set_cons_zero, List.set_cons_succ]
              refine anyL_ready (rs := [9]) (by kernel_rfl) (by simp) ?_
              refine AllL.cons (o := moC9) rfl (fun K' hK => ?_) AllL.nil
              rw [if_pos (by rfl)]
              unfold moC9
              have r0 := M5_bB.cell 0
              simp only [List.getElem?_toArray, List.getElem?_cons_zero] at r0
              have t0 := M5_bB.fr 0
              go_simp
              obtain ⟨V6, hV6⟩ : ∃ V, V = V5.setCell ⟨bB, 0, none⟩ (.slice (some ⟨rB, 0, none⟩) 1 1) := ⟨_, rfl⟩
              have M6_bB : MBlk V6 bB #[.slice (some ⟨rB, 0, none⟩) 1 1] 33 := by rw [hV6]; exact mblk_one M5_bB _
              have M6_rB := (show MBlk V6 rB _ _ by rw [hV6]; exact mblk_far M5_rB (by first | exact NrBbB | exact fun e => NbBrB e.symm) _)
              have M6_bA := (show MBlk V6 bA _ _ by rw [hV6]; exact mblk_far M5_bA (by first | exact NbAbB | exact fun e => NbBbA e.symm) _)
              have M6_rA := (show MBlk V6 rA _ _ by rw [hV6]; exact mblk_far M5_rA (by first | exact NrAbB | exact fun e => NbBrA e.symm) _)
              have D6 : Below Wd.heap.size Wd V6 := by rw [hV6]; exact D5.setCell (p := ⟨bB, 0, none⟩) GbB _
              have SD6 := HSB.out _ _ D6 SD0
              simp only [← hV6]
              refine hK _ _ SD6 ?_
              clear hK K' hV6 r0 t0 D5 SD5 M5_rB M5_bB M5_bA M5_rA
              try simp only [Act.put, List.setIfInBounds_toArray, List.set_cons_zero, List.set_cons_succ]
              refine anyL_done (by kernel_rfl) ?_ _
              go_wp2
              go_meet
              exact ⟨bA, bB, rA, rB, rfl, rfl, M6_bA, M6_bB, M6_rA, M6_rB, SD6, HB.out.trans (D6.mono HB.out.size)⟩
        · rw [if_pos (by rfl)]
          unfold moC6
          go_simp
          obtain ⟨V1, hV1⟩ : ∃ V, V = Wd.alloc (.cells #[.slice none 0 0] 33) := ⟨_, rfl⟩
          obtain ⟨bA, hbA⟩ : ∃ n, n = Wd.heap.size := ⟨_, rfl⟩
          have bb : Below Wd.heap.size Wd V1 := by rw [hV1]; exact (Below.refl _ _).alloc (Nat.le_refl _) _
          have M1_bA : MBlk V1 bA #[.slice none 0 0] 33 := by rw [hV1, hbA]; exact mblk_new _ _ _
          have D1 : Below Wd.heap.size Wd V1 := D0.trans (bb.mono D0.size)
          have GbA : Wd.heap.size ≤ bA := by rw [hbA]; exact D0.size
          have SD1 := HSB.out _ _ D1 SD0
          simp only [← hV1, ← hbA]
          refine hK _ _ SD1 ?_
          clear hK K' hV1 hbA bb D0
          try simp only [Act.put, List.setIfInBounds_toArray, List.set_cons_zero, List.set_cons_succ]
          refine anyL_ready (rs := [1, 4, 7]) (by kernel_rfl) (by simp) ?_
          refine AllL.cons (o := moC1) rfl (fun K' hK => ?_) (AllL.cons (o := moC4) rfl (fun K' hK => ?_) (AllL.cons (o := moC7) rfl (fun K' hK => ?_) AllL.nil))
          · rw [if_pos (by rfl)]
            unfold moC1
            go_simp
            obtain ⟨V2, hV2⟩ : ∃ V, V = V1.alloc (.cells #[.slice p1 f.path.length c1, .string f.id, .string f.title, .string f.link, .int .i64 f.upd, .slice q1 f.ents.length d1] 25) := ⟨_, rfl⟩
            obtain ⟨rA, hrA⟩ : ∃ n, n = V1.heap.size := ⟨_, rfl⟩
            have bb : Below V1.heap.size V1 V2 := by rw [hV2]; exact (Below.refl _ _).alloc (Nat.le_refl _) _
            have M2_rA : MBlk V2 rA #[.slice p1 f.path.length c1, .string f.id, .string f.title, .string f.link, .int .i64 f.upd, .slice q1 f.ents.length d1] 25 := by rw [hV2, hrA]; exact mblk_new _ _ _
            have M2_bA := M1_bA.more bb
            have NbArA : bA ≠ rA := by have := M1_bA.lt; omega
            have D2 : Below Wd.heap.size Wd V2 := D1.trans (bb.mono D1.size)
            have GrA : Wd.heap.size ≤ rA := by rw [hrA]; exact D1.size
            have SD2 := HSB.out _ _ D2 SD0
            simp only [← hV2, ← hrA]
            refine hK _ _ SD2 ?_
            clear hK K' hV2 hrA bb D1 SD1 M1_bA
            try simp only [Act.put, List.setIfInBounds_toArray, List.set_cons_zero, List.set_cons_succ]
            refine anyL_take (i := 2) (oi := { dst := some 43, op := Go.Op.build 33 #[(0, Go.Operand.tmp 42)], type := 33, pos := "law.go:70", after := #[{ on := 1, ground := Go.Ground.data }], guard := none }) (v := ?_) rfl (by decide) (by kernel_rfl) (by kernel_rfl) (by kernel_rfl) (by kernel_rfl) (fun _ _ _ h => h) (Or.inl ⟨by rfl, ?_⟩) SD2 ?_
            rotate_left
            · intro wz hSz
              skip
              go_simp
              (try with_reducible rfl)
            try simp only [Act.put, List.setIfInBounds_toArray, List.set_cons_zero, List.set_cons_succ]
            refine anyL_ready (rs := [4, 7]) (by kernel_rfl) (by simp) ?_
            refine AllL.cons (o := moC4) rfl (fun K' hK => ?_) (AllL.cons (o := moC7) rfl (fun K' hK => ?_) AllL.nil)
            · rw [if_pos (by rfl)]
              unfold moC4
              go_simp
              obtain ⟨V3, hV3⟩ : ∃ V, V = V2.alloc (.cells #[.slice p2 g.path.length c2, .string g.id, .string g.title, .string g.link, .int .i64 g.upd, .slice q2 g.ents.length d2] 25) := ⟨_, rfl⟩
              obtain ⟨rB, hrB⟩ : ∃ n, n = V2.heap.size := ⟨_, rfl⟩
              have bb : Below V2.heap.size V2 V3 := by rw [hV3]; exact (Below.refl _ _).alloc (Nat.le_refl _) _
              have M3_rB : MBlk V3 rB #[.slice p2 g.path.length c2, .string g.id, .string g.title, .string g.link, .int .i64 g.upd, .slice q2 g.ents.length d2] 25 := by rw [hV3, hrB]; exact mblk_new _ _ _
              have M3_bA := M2_bA.more bb
              have NbArB : bA ≠ rB := by have := M2_bA.lt; omega
              have M3_rA := M2_rA.more bb
              have NrArB : rA ≠ rB := by have := M2_rA.lt; omega
              have D3 : Below Wd.heap.size Wd V3 := D2.trans (bb.mono D2.size)
              have GrB : Wd.heap.size ≤ rB := by rw [hrB]; exact D2.size
              have SD3 := HSB.out _ _ D3 SD0
              simp only [← hV3, ← hrB]
              refine hK _ _ SD3 ?_
              clear hK K' hV3 hrB bb D2 SD2 M2_bA M2_rA
              try simp only [Act.put, List.setIfInBounds_toArray, List.set_cons_zero, List.set_cons_succ]
              refine anyL_take (i := 5) (oi := { dst := some 46, op := Go.Op.build 33 #[(0, Go.Operand.tmp 45)], type := 33, pos := "law.go:70", after := #[{ on := 4, ground := Go.Ground.data }, { on := 8, ground := Go.Ground.gcOnly Go.Departure.lateStores }], guard := none }) (v := ?_) rfl (by decide) (by kernel_rfl) (by kernel_rfl) (by kernel_rfl) (by kernel_rfl) (fun _ _ _ h => h) (Or.inl ⟨by rfl, ?_⟩) SD3 ?_
              rotate_left
              · intro wz hSz
                skip
                go_simp
                (try with_reducible rfl)
              try simp only [Act.put, List.setIfInBounds_toArray, List.set_cons_zero, List.set_cons_succ]
              refine anyL_ready (rs := [7]) (by kernel_rfl) (by simp) ?_
              refine AllL.cons (o := moC7) rfl (fun K' hK => ?_) AllL.nil
              rw [if_pos (by rfl)]
              unfold moC7
              go_simp
              obtain ⟨V4, hV4⟩ : ∃ V, V = V3.alloc (.cells #[.slice none 0 0] 33) := ⟨_, rfl⟩
              obtain ⟨bB, hbB⟩ : ∃ n, n = V3.heap.size := ⟨_, rfl⟩
              have bb : Below V3.heap.size V3 V4 := by rw [hV4]; exact (Below.refl _ _).alloc (Nat.le_refl _) _
              have M4_bB : MBlk V4 bB #[.slice none 0 0] 33 := by rw [hV4, hbB]; exact mblk_new _ _ _
              have M4_bA := M3_bA.more bb
              have NbAbB : bA ≠ bB := by have := M3_bA.lt; omega
              have M4_rA := M3_rA.more bb
              have NrAbB : rA ≠ bB := by have := M3_rA.lt; omega
              have M4_rB := M3_rB.more bb
              have NrBbB : rB ≠ bB := by have := M3_rB.lt; omega
              have D4 : Below Wd.heap.size Wd V4 := D3.trans (bb.mono D3.size)
              have GbB : Wd.heap.size ≤ bB := by rw [hbB]; exact D3.size
              have SD4 := HSB.out _ _ D4 SD0
              simp only [← hV4, ← hbB]
              refine hK _ _ SD4 ?_
              clear hK K' hV4 hbB bb D3 SD3 M3_bA M3_rA M3_rB
              try simp only [Act.put, List.setIfInBounds_toArray, List.set_cons_zero, List.set_cons_succ]
              refine anyL_ready (rs := [8]) (by kernel_rfl) (by simp) ?_
              refine AllL.cons (o := moC8) rfl (fun K' hK => ?_) AllL.nil
              rw [if_pos (by rfl)]
              unfold moC8
              have r0 := M4_bA.cell 0
              simp only [List.getElem?_toArray, List.getElem?_cons_zero] at r0
              have t0 := M4_bA.fr 0
              go_simp
              obtain ⟨V5, hV5⟩ : ∃ V, V = V4.setCell ⟨bA, 0, none⟩ (.slice (some ⟨rA, 0, none⟩) 1 1) := ⟨_, rfl⟩
              have M5_bA : MBlk V5 bA #[.slice (some ⟨rA, 0, none⟩) 1 1] 33 := by rw [hV5]; exact mblk_one M4_bA _
              have M5_rA := (show MBlk V5 rA _ _ by rw [hV5]; exact mblk_far M4_rA (by first | exact NrAbA | exact fun e => NbArA e.symm) _)
              have M5_rB := (show MBlk V5 rB _ _ by rw [hV5]; exact mblk_far M4_rB (by first | exact NrBbA | exact fun e => NbArB e.symm) _)
              have M5_bB := (show MBlk V5 bB _ _ by rw [hV5]; exact mblk_far M4_bB (by first | exact NbBbA | exact fun e => NbAbB e.symm) _)
              have D5 : Below Wd.heap.size Wd V5 := by rw [hV5]; exact D4.setCell (p := ⟨bA, 0, none⟩) GbA _
              have SD5 := HSB.out _ _ D5 SD0
              simp only [← hV5]
              refine hK _ _ SD5 ?_
              clear hK K' hV5 r0 t0 D4 SD4 M4_bA M4_rA M4_rB M4_bB
              try simp only [Act.put, List.setIfInBounds_toArray, List.set_cons_zero, List.set_cons_succ]
              refine anyL_ready (rs := [9]) (by kernel_rfl) (by simp) ?_
              refine AllL.cons (o := moC9) rfl (fun K' hK => ?_) AllL.nil
              rw [if_pos (by rfl)]
              unfold moC9
              have r0 := M5_bB.cell 0
              simp only [List.getElem?_toArray, List.getElem?_cons_zero] at r0
              have t0 := M5_bB.fr 0
              go_simp
              obtain ⟨V6, hV6⟩ : ∃ V, V = V5.setCell ⟨bB, 0, none⟩ (.slice (some ⟨rB, 0, none⟩) 1 1) := ⟨_, rfl⟩
              have M6_bB : MBlk V6 bB #[.slice (some ⟨rB, 0, none⟩) 1 1] 33 := by rw [hV6]; exact mblk_one M5_bB _
              have M6_bA := (show MBlk V6 bA _ _ by rw [hV6]; exact mblk_far M5_bA (by first | exact NbAbB | exact fun e => NbBbA e.symm) _)
              have M6_rA := (show MBlk V6 rA _ _ by rw [hV6]; exact mblk_far M5_rA (by first | exact NrAbB | exact fun e => NbBrA e.symm) _)
              have M6_rB := (show MBlk V6 rB _ _ by rw [hV6]; exact mblk_far M5_rB (by first | exact NrBbB | exact fun e => NbBrB e.symm) _)
              have D6 : Below Wd.heap.size Wd V6 := by rw [hV6]; exact D5.setCell (p := ⟨bB, 0, none⟩) GbB _
              have SD6 := HSB.out _ _ D6 SD0
              simp only [← hV6]
              refine hK _ _ SD6 ?_
              clear hK K' hV6 r0 t0 D5 SD5 M5_bA M5_rA M5_rB M5_bB
              try simp only [Act.put, List.setIfInBounds_toArray, List.set_cons_zero, List.set_cons_succ]
              refine anyL_done (by kernel_rfl) ?_ _
              go_wp2
              go_meet
              exact ⟨bA, bB, rA, rB, rfl, rfl, M6_bA, M6_bB, M6_rA, M6_rB, SD6, HB.out.trans (D6.mono HB.out.size)⟩
            · rw [if_pos (by rfl)]
              unfold moC7
              go_simp
              obtain ⟨V3, hV3⟩ : ∃ V, V = V2.alloc (.cells #[.slice none 0 0] 33) := ⟨_, rfl⟩
              obtain ⟨bB, hbB⟩ : ∃ n, n = V2.heap.size := ⟨_, rfl⟩
              have bb : Below V2.heap.size V2 V3 := by rw [hV3]; exact (Below.refl _ _).alloc (Nat.le_refl _) _
              have M3_bB : MBlk V3 bB #[.slice none 0 0] 33 := by rw [hV3, hbB]; exact mblk_new _ _ _
              have M3_bA := M2_bA.more bb
              have NbAbB : bA ≠ bB := by have := M2_bA.lt; omega
              have M3_rA := M2_rA.more bb
              have NrAbB : rA ≠ bB := by have := M2_rA.lt; omega
              have D3 : Below Wd.heap.size Wd V3 := D2.trans (bb.mono D2.size)
              have GbB : Wd.heap.size ≤ bB := by rw [hbB]; exact D2.size
              have SD3 := HSB.out _ _ D3 SD0
              simp only [← hV3, ← hbB]
              refine hK _ _ SD3 ?_
              clear hK K' hV3 hbB bb D2 SD2 M2_bA M2_rA
              try simp only [Act.put, List.setIfInBounds_toArray, List.set_cons_zero, List.set_cons_succ]
              refine anyL_ready (rs := [4, 8]) (by kernel_rfl) (by simp) ?_
              refine AllL.cons (o := moC4) rfl (fun K' hK => ?_) (AllL.cons (o := moC8) rfl (fun K' hK => ?_) AllL.nil)
              · rw [if_pos (by rfl)]
                unfold moC4
                go_simp
                obtain ⟨V4, hV4⟩ : ∃ V, V = V3.alloc (.cells #[.slice p2 g.path.length c2, .string g.id, .string g.title, .string g.link, .int .i64 g.upd, .slice q2 g.ents.length d2] 25) := ⟨_, rfl⟩
                obtain ⟨rB, hrB⟩ : ∃ n, n = V3.heap.size := ⟨_, rfl⟩
                have bb : Below V3.heap.size V3 V4 := by rw [hV4]; exact (Below.refl _ _).alloc (Nat.le_refl _) _
                have M4_rB : MBlk V4 rB #[.slice p2 g.path.length c2, .string g.id, .string g.title, .string g.link, .int .i64 g.upd, .slice q2 g.ents.length d2] 25 := by rw [hV4, hrB]; exact mblk_new _ _ _
                have M4_bA := M3_bA.more bb
                have NbArB : bA ≠ rB := by have := M3_bA.lt; omega
                have M4_rA := M3_rA.more bb
                have NrArB : rA ≠ rB := by have := M3_rA.lt; omega
                have M4_bB := M3_bB.more bb
                have NbBrB : bB ≠ rB := by have := M3_bB.lt; omega
                have D4 : Below Wd.heap.size Wd V4 := D3.trans (bb.mono D3.size)
                have GrB : Wd.heap.size ≤ rB := by rw [hrB]; exact D3.size
                have SD4 := HSB.out _ _ D4 SD0
                simp only [← hV4, ← hrB]
                refine hK _ _ SD4 ?_
                clear hK K' hV4 hrB bb D3 SD3 M3_bA M3_rA M3_bB
                try simp only [Act.put, List.setIfInBounds_toArray, List.set_cons_zero, List.set_cons_succ]
                refine anyL_take (i := 5) (oi := { dst := some 46, op := Go.Op.build 33 #[(0, Go.Operand.tmp 45)], type := 33, pos := "law.go:70", after := #[{ on := 4, ground := Go.Ground.data }, { on := 8, ground := Go.Ground.gcOnly Go.Departure.lateStores }], guard := none }) (v := ?_) rfl (by decide) (by kernel_rfl) (by kernel_rfl) (by kernel_rfl) (by kernel_rfl) (fun _ _ _ h => h) (Or.inl ⟨by rfl, ?_⟩) SD4 ?_
                rotate_left
                · intro wz hSz
                  skip
                  go_simp
                  (try with_reducible rfl)
                try simp only [Act.put, List.setIfInBounds_toArray, List.set_cons_zero, List.set_cons_succ]
                refine anyL_ready (rs := [8]) (by kernel_rfl) (by simp) ?_
                refine AllL.cons (o := moC8) rfl (fun K' hK => ?_) AllL.nil
                rw [if_pos (by rfl)]
                unfold moC8
                have r0 := M4_bA.cell 0
                simp only [List.getElem?_toArray, List.getElem?_cons_zero] at r0
                have t0 := M4_bA.fr 0
                go_simp
                obtain ⟨V5, hV5⟩ : ∃ V, V = V4.setCell ⟨bA, 0, none⟩ (.slice (some ⟨rA, 0, none⟩) 1 1) := ⟨_, rfl⟩
                have M5_bA : MBlk V5 bA #[.slice (some ⟨rA, 0, none⟩) 1 1] 33 := by rw [hV5]; exact mblk_one M4_bA _
                have M5_rA := (show MBlk V5 rA _ _ by rw [hV5]; exact mblk_far M4_rA (by first | exact NrAbA | exact fun e => NbArA e.symm) _)
                have M5_bB := (show MBlk V5 bB _ _ by rw [hV5]; exact mblk_far M4_bB (by first | exact NbBbA | exact fun e => NbAbB e.symm) _)
                have M5_rB := (show MBlk V5 rB _ _ by rw [hV5]; exact mblk_far M4_rB (by first | exact NrBbA | exact fun e => NbArB e.symm) _)
                have D5 : Below Wd.heap.size Wd V5 := by rw [hV5]; exact D4.setCell (p := ⟨bA, 0, none⟩) GbA _
                have SD5 := HSB.out _ _ D5 SD0
                simp only [← hV5]
                refine hK _ _ SD5 ?_
                clear hK K' hV5 r0 t0 D4 SD4 M4_bA M4_rA M4_bB M4_rB
                try simp only [Act.put, List.setIfInBounds_toArray, List.set_cons_zero, List.set_cons_succ]
                refine anyL_ready (rs := [9]) (by kernel_rfl) (by simp) ?_
                refine AllL.cons (o := moC9) rfl (fun K' hK => ?_) AllL.nil
                rw [if_pos (by rfl)]
                unfold moC9
                have r0 := M5_bB.cell 0
                simp only [List.getElem?_toArray, List.getElem?_cons_zero] at r0
                have t0 := M5_bB.fr 0
                go_simp
                obtain ⟨V6, hV6⟩ : ∃ V, V = V5.setCell ⟨bB, 0, none⟩ (.slice (some ⟨rB, 0, none⟩) 1 1) := ⟨_, rfl⟩
                have M6_bB : MBlk V6 bB #[.slice (some ⟨rB, 0, none⟩) 1 1] 33 := by rw [hV6]; exact mblk_one M5_bB _
                have M6_bA := (show MBlk V6 bA _ _ by rw [hV6]; exact mblk_far M5_bA (by first | exact NbAbB | exact fun e => NbBbA e.symm) _)
                have M6_rA := (show MBlk V6 rA _ _ by rw [hV6]; exact mblk_far M5_rA (by first | exact NrAbB | exact fun e => NbBrA e.symm) _)
                have M6_rB := (show MBlk V6 rB _ _ by rw [hV6]; exact mblk_far M5_rB (by first | exact NrBbB | exact fun e => NbBrB e.symm) _)
                have D6 : Below Wd.heap.size Wd V6 := by rw [hV6]; exact D5.setCell (p := ⟨bB, 0, none⟩) GbB _
                have SD6 := HSB.out _ _ D6 SD0
                simp only [← hV6]
                refine hK _ _ SD6 ?_
                clear hK K' hV6 r0 t0 D5 SD5 M5_bA M5_rA M5_bB M5_rB
                try simp only [Act.put, List.setIfInBounds_toArray, List.set_cons_zero, List.set_cons_succ]
                refine anyL_done (by kernel_rfl) ?_ _
                go_wp2
                go_meet
                exact ⟨bA, bB, rA, rB, rfl, rfl, M6_bA, M6_bB, M6_rA, M6_rB, SD6, HB.out.trans (D6.mono HB.out.size)⟩
              · rw [if_pos (by rfl)]
                unfold moC8
                have r0 := M3_bA.cell 0
                simp only [List.getElem?_toArray, List.getElem?_cons_zero] at r0
                have t0 := M3_bA.fr 0
                go_simp
                obtain ⟨V4, hV4⟩ : ∃ V, V = V3.setCell ⟨bA, 0, none⟩ (.slice (some ⟨rA, 0, none⟩) 1 1) := ⟨_, rfl⟩
                have M4_bA : MBlk V4 bA #[.slice (some ⟨rA, 0, none⟩) 1 1] 33 := by rw [hV4]; exact mblk_one M3_bA _
                have M4_rA := (show MBlk V4 rA _ _ by rw [hV4]; exact mblk_far M3_rA (by first | exact NrAbA | exact fun e => NbArA e.symm) _)
                have M4_bB := (show MBlk V4 bB _ _ by rw [hV4]; exact mblk_far M3_bB (by first | exact NbBbA | exact fun e => NbAbB e.symm) _)
                have D4 : Below Wd.heap.size Wd V4 := by rw [hV4]; exact D3.setCell (p := ⟨bA, 0, none⟩) GbA _
                have SD4 := HSB.out _ _ D4 SD0
                simp only [← hV4]
                refine hK _ _ SD4 ?_
                clear hK K' hV4 r0 t0 D3 SD3 M3_bA M3_rA M3_bB
                try simp only [Act.put, List.setIfInBounds_toArray, List.set_cons_zero, List.set_cons_succ]
                refine anyL_ready (rs := [4]) (by kernel_rfl) (by simp) ?_
                refine AllL.cons (o := moC4) rfl (fun K' hK => ?_) AllL.nil
                rw [if_pos (by rfl)]
                unfold moC4
                go_simp
                obtain ⟨V5, hV5⟩ : ∃ V, V = V4.alloc (.cells #[.slice p2 g.path.length c2, .string g.id, .string g.title, .string g.link, .int .i64 g.upd, .slice q2 g.ents.length d2] 25) := ⟨_, rfl⟩
                obtain ⟨rB, hrB⟩ : ∃ n, n = V4.heap.size := ⟨_, rfl⟩
                have bb : Below V4.heap.size V4 V5 := by rw [hV5]; exact (Below.refl _ _).alloc (Nat.le_refl _) _
                have M5_rB : MBlk V5 rB #[.slice p2 g.path.length c2, .string g.id, .string g.title, .string g.link, .int .i64 g.upd, .slice q2 g.ents.length d2] 25 := by rw [hV5, hrB]; exact mblk_new _ _ _
                have M5_bA := M4_bA.more bb
                have NbArB : bA ≠ rB := by have := M4_bA.lt; omega
                have M5_rA := M4_rA.more bb
                have NrArB : rA ≠ rB := by have := M4_rA.lt; omega
                have M5_bB := M4_bB.more bb
                have NbBrB : bB ≠ rB := by have := M4_bB.lt; omega
                have D5 : Below Wd.heap.size Wd V5 := D4.trans (bb.mono D4.size)
                have GrB : Wd.heap.size ≤ rB := by rw [hrB]; exact D4.size
                have SD5 := HSB.out _ _ D5 SD0
                simp only [← hV5, ← hrB]
                refine hK _ _ SD5 ?_
                clear hK K' hV5 hrB bb D4 SD4 M4_bA M4_rA M4_bB
                try simp only [Act.put, List.setIfInBounds_toArray, List.set_cons_zero, List.set_cons_succ]
                refine anyL_take (i := 5) (oi := { dst := some 46, op := Go.Op.build 33 #[(0, Go.Operand.tmp 45)], type := 33, pos := "law.go:70", after := #[{ on := 4, ground := Go.Ground.data }, { on := 8, ground := Go.Ground.gcOnly Go.Departure.lateStores }], guard := none }) (v := ?_) rfl (by decide) (by kernel_rfl) (by kernel_rfl) (by kernel_rfl) (by kernel_rfl) (fun _ _ _ h => h) (Or.inl ⟨by rfl, ?_⟩) SD5 ?_
                rotate_left
                · intro wz hSz
                  skip
                  go_simp
                  (try with_reducible rfl)
                try simp only [Act.put, List.setIfInBounds_toArray, List.set_cons_zero, List.set_cons_succ]
                refine anyL_ready (rs := [9]) (by kernel_rfl) (by simp) ?_
                refine AllL.cons (o := moC9) rfl (fun K' hK => ?_) AllL.nil
                rw [if_pos (by rfl)]
                unfold moC9
                have r0 := M5_bB.cell 0
                simp only [List.getElem?_toArray, List.getElem?_cons_zero] at r0
                have t0 := M5_bB.fr 0
                go_simp
                obtain ⟨V6, hV6⟩ : ∃ V, V = V5.setCell ⟨bB, 0, none⟩ (.slice (some ⟨rB, 0, none⟩) 1 1) := ⟨_, rfl⟩
                have M6_bB : MBlk V6 bB #[.slice (some ⟨rB, 0, none⟩) 1 1] 33 := by rw [hV6]; exact mblk_one M5_bB _
                have M6_bA := (show MBlk V6 bA _ _ by rw [hV6]; exact mblk_far M5_bA (by first | exact NbAbB | exact fun e => NbBbA e.symm) _)
                have M6_rA := (show MBlk V6 rA _ _ by rw [hV6]; exact mblk_far M5_rA (by first | exact NrAbB | exact fun e => NbBrA e.symm) _)
                have M6_rB := (show MBlk V6 rB _ _ by rw [hV6]; exact mblk_far M5_rB (by first | exact NrBbB | exact fun e => NbBrB e.symm) _)
                have D6 : Below Wd.heap.size Wd V6 := by rw [hV6]; exact D5.setCell (p := ⟨bB, 0, none⟩) GbB _
                have SD6 := HSB.out _ _ D6 SD0
                simp only [← hV6]
                refine hK _ _ SD6 ?_
                clear hK K' hV6 r0 t0 D5 SD5 M5_bA M5_rA M5_bB M5_rB
                try simp only [Act.put, List.setIfInBounds_toArray, List.set_cons_zero, List.set_cons_succ]
                refine anyL_done (by kernel_rfl) ?_ _
                go_wp2
                go_meet
                exact ⟨bA, bB, rA, rB, rfl, rfl, M6_bA, M6_bB, M6_rA, M6_rB, SD6, HB.out.trans (D6.mono HB.out.size)⟩
          · rw [if_pos (by rfl)]
            unfold moC4
            go_simp
            obtain ⟨V2, hV2⟩ : ∃ V, V = V1.alloc (.cells #[.slice p2 g.path.length c2, .string g.id, .string g.title, .string g.link, .int .i64 g.upd, .slice q2 g.ents.length d2] 25) := ⟨_, rfl⟩
            obtain ⟨rB, hrB⟩ : ∃ n, n = V1.heap.size := ⟨_, rfl⟩
            have bb : Below V1.heap.size V1 V2 := by rw [hV2]; exact (Below.refl _ _).alloc (Nat.le_refl _) _
            have M2_rB : MBlk V2 rB #[.slice p2 g.path.length c2, .string g.id, .string g.title, .string g.link, .int .i64 g.upd, .slice q2 g.ents.length d2] 25 := by rw [hV2, hrB]; exact mblk_new _ _ _
            have M2_bA := M1_bA.more bb
            have NbArB : bA ≠ rB := by have := M1_bA.lt; omega
            have D2 : Below Wd.heap.size Wd V2 := D1.trans (bb.mono D1.size)
            have GrB : Wd.heap.size ≤ rB := by rw [hrB]; exact D1.size
            have SD2 := HSB.out _ _ D2 SD0
            simp only [← hV2, ← hrB]
            refine hK _ _ SD2 ?_
            clear hK K' hV2 hrB bb D1 SD1 M1_bA
            try simp only [Act.put, List.setIfInBounds_toArray, List.set_cons_zero, List.set_cons_succ]
            refine anyL_take (i := 5) (oi := { dst := some 46, op := Go.Op.build 33 #[(0, Go.Operand.tmp 45)], type := 33, pos := "law.go:70", after := #[{ on := 4, ground := Go.Ground.data }, { on := 8, ground := Go.Ground.gcOnly Go.Departure.lateStores }], guard := none }) (v := ?_) rfl (by decide) (by kernel_rfl) (by kernel_rfl) (by kernel_rfl) (by kernel_rfl) (fun _ _ _ h => h) (Or.inl ⟨by rfl, ?_⟩) SD2 ?_
            rotate_left
            · intro wz hSz
              skip
              go_simp
              (try with_reducible rfl)
            try simp only [Act.put, List.setIfInBounds_toArray, List.set_cons_zero, List.set_cons_succ]
            refine anyL_ready (rs := [1, 7]) (by kernel_rfl) (by simp) ?_
            refine AllL.cons (o := moC1) rfl (fun K' hK => ?_) (AllL.cons (o := moC7) rfl (fun K' hK => ?_) AllL.nil)
            · rw [if_pos (by rfl)]
              unfold moC1
              go_simp
              obtain ⟨V3, hV3⟩ : ∃ V, V = V2.alloc (.cells #[.slice p1 f.path.length c1, .string f.id, .string f.title, .string f.link, .int .i64 f.upd, .slice q1 f.ents.length d1] 25) := ⟨_, rfl⟩
              obtain ⟨rA, hrA⟩ : ∃ n, n = V2.heap.size := ⟨_, rfl⟩
              have bb : Below V2.heap.size V2 V3 := by rw [hV3]; exact (Below.refl _ _).alloc (Nat.le_refl _) _
              have M3_rA : MBlk V3 rA #[.slice p1 f.path.length c1, .string f.id, .string f.title, .string f.link, .int .i64 f.upd, .slice q1 f.ents.length d1] 25 := by rw [hV3, hrA]; exact mblk_new _ _ _
              have M3_bA := M2_bA.more bb
              have NbArA : bA ≠ rA := by have := M2_bA.lt; omega
              have M3_rB := M2_rB.more bb
              have NrBrA : rB ≠ rA := by have := M2_rB.lt; omega
              have D3 : Below Wd.heap.size Wd V3 := D2.trans (bb.mono D2.size)
              have GrA : Wd.heap.size ≤ rA := by rw [hrA]; exact D2.size
              have SD3 := HSB.out _ _ D3 SD0
              simp only [← hV3, ← hrA]
              refine hK _ _ SD3 ?_
              clear hK K' hV3 hrA bb D2 SD2 M2_bA M2_rB
              try simp only [Act.put, List.setIfInBounds_toArray, List.set_cons_zero, List.set_cons_succ]
              refine anyL_take (i := 2) (oi := { dst := some 43, op := Go.Op.build 33 #[(0, Go.Operand.tmp 42)], type := 33, pos := "law.go:70", after := #[{ on := 1, ground := Go.Ground.data }], guard := none }) (v := ?_) rfl (by decide) (by kernel_rfl) (by kernel_rfl) (by kernel_rfl) (by kernel_rfl) (fun _ _ _ h => h) (Or.inl ⟨by rfl, ?_⟩) SD3 ?_
              rotate_left
              · intro wz hSz
                skip
                go_simp
                (try with_reducible rfl)
              try simp only [Act.put, List.setIfInBounds_toArray, List.set_cons_zero, List.set_cons_succ]
              refine anyL_ready (rs := [7]) (by kernel_rfl) (by simp) ?_
              refine AllL.cons (o := moC7) rfl (fun K' hK => ?_) AllL.nil
              rw [if_pos (by rfl)]
              unfold moC7
              go_simp
              obtain ⟨V4, hV4⟩ : ∃ V, V = V3.alloc (.cells #[.slice none 0 0] 33) := ⟨_, rfl⟩
              obtain ⟨bB, hbB⟩ : ∃ n, n = V3.heap.size := ⟨_, rfl⟩
              have bb : Below V3.heap.size V3 V4 := by rw [hV4]; exact (Below.refl _ _).alloc (Nat.le_refl _) _
              have M4_bB : MBlk V4 bB #[.slice none 0 0] 33 := by rw [hV4, hbB]; exact mblk_new _ _ _
              have M4_bA := M3_bA.more bb
              have NbAbB : bA ≠ bB := by have := M3_bA.lt; omega
              have M4_rB := M3_rB.more bb
              have NrBbB : rB ≠ bB := by have := M3_rB.lt; omega
              have M4_rA := M3_rA.more bb
              have NrAbB : rA ≠ bB := by have := M3_rA.lt; omega
              have D4 : Below Wd.heap.size Wd V4 := D3.trans (bb.mono D3.size)
              have GbB : Wd.heap.size ≤ bB := by rw [hbB]; exact D3.size
              have SD4 := HSB.out _ _ D4 SD0
              simp only [← hV4, ← hbB]
              refine hK _ _ SD4 ?_
              clear hK K' hV4 hbB bb D3 SD3 M3_bA M3_rB M3_rA
              try simp only [Act.put, List.setIfInBounds_toArray, List.set_cons_zero, List.set_cons_succ]
              refine anyL_ready (rs := [8]) (by kernel_rfl) (by simp) ?_
              refine AllL.cons (o := moC8) rfl (fun K' hK => ?_) AllL.nil
              rw [if_pos (by rfl)]
              unfold moC8
              have r0 := M4_bA.cell 0
              simp only [List.getElem?_toArray, List.getElem?_cons_zero] at r0
              have t0 := M4_bA.fr 0
              go_simp
              obtain ⟨V5, hV5⟩ : ∃ V, V = V4.setCell ⟨bA, 0, none⟩ (.slice (some ⟨rA, 0, none⟩) 1 1) := ⟨_, rfl⟩
              have M5_bA : MBlk V5 bA #[.slice (some ⟨rA, 0, none⟩) 1 1] 33 := by rw [hV5]; exact mblk_one M4_bA _
              have M5_rB := (show MBlk V5 rB _ _ by rw [hV5]; exact mblk_far M4_rB (by first | exact NrBbA | exact fun e => NbArB e.symm) _)
              have M5_rA := (show MBlk V5 rA _ _ by rw [hV5]; exact mblk_far M4_rA (by first | exact NrAbA | exact fun e => NbArA e.symm) _)
              have M5_bB := (show MBlk V5 bB _ _ by rw [hV5]; exact mblk_far M4_bB (by first | exact NbBbA | exact fun e => NbAbB e.symm) _)
              have D5 : Below Wd.heap.size Wd V5 := by rw [hV5]; exact D4.setCell (p := ⟨bA, 0, none⟩) GbA _
              have SD5 := HSB.out _ _ D5 SD0
              simp only [← hV5]
              refine hK _ _ SD5 ?_
              clear hK K' hV5 r0 t0 D4 SD4 M4_bA M4_rB M4_rA M4_bB
              try simp only [Act.put, List.setIfInBounds_toArray, List.set_cons_zero, List.set_cons_succ]
              refine anyL_ready (rs := [9]) (by kernel_rfl) (by simp) ?_
              refine AllL.cons (o := moC9) rfl (fun K' hK => ?_) AllL.nil
              rw [if_pos (by rfl)]
              unfold moC9
              have r0 := M5_bB.cell 0
              simp only [List.getElem?_toArray, List.getElem?_cons_zero] at r0
              have t0 := M5_bB.fr 0
              go_simp
              obtain ⟨V6, hV6⟩ : ∃ V, V = V5.setCell ⟨bB, 0, none⟩ (.slice (some ⟨rB, 0, none⟩) 1 1) := ⟨_, rfl⟩
              have M6_bB : MBlk V6 bB #[.slice (some ⟨rB, 0, none⟩) 1 1] 33 := by rw [hV6]; exact mblk_one M5_bB _
              have M6_bA := (show MBlk V6 bA _ _ by rw [hV6]; exact mblk_far M5_bA (by first | exact NbAbB | exact fun e => NbBbA e.symm) _)
              have M6_rB := (show MBlk V6 rB _ _ by rw [hV6]; exact mblk_far M5_rB (by first | exact NrBbB | exact fun e => NbBrB e.symm) _)
              have M6_rA := (show MBlk V6 rA _ _ by rw [hV6]; exact mblk_far M5_rA (by first | exact NrAbB | exact fun e => NbBrA e.symm) _)
              have D6 : Below Wd.heap.size Wd V6 := by rw [hV6]; exact D5.setCell (p := ⟨bB, 0, none⟩) GbB _
              have SD6 := HSB.out _ _ D6 SD0
              simp only [← hV6]
              refine hK _ _ SD6 ?_
              clear hK K' hV6 r0 t0 D5 SD5 M5_bA M5_rB M5_rA M5_bB
              try simp only [Act.put, List.setIfInBounds_toArray, List.set_cons_zero, List.set_cons_succ]
              refine anyL_done (by kernel_rfl) ?_ _
              go_wp2
              go_meet
              exact ⟨bA, bB, rA, rB, rfl, rfl, M6_bA, M6_bB, M6_rA, M6_rB, SD6, HB.out.trans (D6.mono HB.out.size)⟩
            · rw [if_pos (by rfl)]
              unfold moC7
              go_simp
              obtain ⟨V3, hV3⟩ : ∃ V, V = V2.alloc (.cells #[.slice none 0 0] 33) := ⟨_, rfl⟩
              obtain ⟨bB, hbB⟩ : ∃ n, n = V2.heap.size := ⟨_, rfl⟩
              have bb : Below V2.heap.size V2 V3 := by rw [hV3]; exact (Below.refl _ _).alloc (Nat.le_refl _) _
              have M3_bB : MBlk V3 bB #[.slice none 0 0] 33 := by rw [hV3, hbB]; exact mblk_new _ _ _
              have M3_bA := M2_bA.more bb
              have NbAbB : bA ≠ bB := by have := M2_bA.lt; omega
              have M3_rB := M2_rB.more bb
              have NrBbB : rB ≠ bB := by have := M2_rB.lt; omega
              have D3 : Below Wd.heap.size Wd V3 := D2.trans (bb.mono D2.size)
              have GbB : Wd.heap.size ≤ bB := by rw [hbB]; exact D2.size
              have SD3 := HSB.out _ _ D3 SD0
              simp only [← hV3, ← hbB]
              refine hK _ _ SD3 ?_
              clear hK K' hV3 hbB bb D2 SD2 M2_bA M2_rB
              try simp only [Act.put, List.setIfInBounds_toArray, List.set_cons_zero, List.set_cons_succ]
              refine anyL_ready (rs := [1]) (by kernel_rfl) (by simp) ?_
              refine AllL.cons (o := moC1) rfl (fun K' hK => ?_) AllL.nil
              rw [if_pos (by rfl)]
              unfold moC1
              go_simp
              obtain ⟨V4, hV4⟩ : ∃ V, V = V3.alloc (.cells #[.slice p1 f.path.length c1, .string f.id, .string f.title, .string f.link, .int .i64 f.upd, .slice q1 f.ents.length d1] 25) := ⟨_, rfl⟩
              obtain ⟨rA, hrA⟩ : ∃ n, n = V3.heap.size := ⟨_, rfl⟩
              have bb : Below V3.heap.size V3 V4 := by rw [hV4]; exact (Below.refl _ _).alloc (Nat.le_refl _) _
              have M4_rA : MBlk V4 rA #[.slice p1 f.path.length c1, .string f.id, .string f.title, .string f.link, .int .i64 f.upd, .slice q1 f.ents.length d1] 25 := by rw [hV4, hrA]; exact mblk_new _ _ _
              have M4_bA := M3_bA.more bb
              have NbArA : bA ≠ rA := by have := M3_bA.lt; omega
              have M4_rB := M3_rB.more bb
              have NrBrA : rB ≠ rA := by have := M3_rB.lt; omega
              have M4_bB := M3_bB.more bb
              have NbBrA : bB ≠ rA := by have := M3_bB.lt; omega
              have D4 : Below Wd.heap.size Wd V4 := D3.trans (bb.mono D3.size)
              have GrA : Wd.heap.size ≤ rA := by rw [hrA]; exact D3.size
              have SD4 := HSB.out _ _ D4 SD0
              simp only [← hV4, ← hrA]
              refine hK _ _ SD4 ?_
              clear hK K' hV4 hrA bb D3 SD3 M3_bA M3_rB M3_bB
              try simp only [Act.put, List.setIfInBounds_toArray, List.set_cons_zero, List.set_cons_succ]
              refine anyL_take (i := 2) (oi := { dst := some 43, op := Go.Op.build 33 #[(0, Go.Operand.tmp 42)], type := 33, pos := "law.go:70", after := #[{ on := 1, ground := Go.Ground.data }], guard := none }) (v := ?_) rfl (by decide) (by kernel_rfl) (by kernel_rfl) (by kernel_rfl) (by kernel_rfl) (fun _ _ _ h => h) (Or.inl ⟨by rfl, ?_⟩) SD4 ?_
              rotate_left
              · intro wz hSz
                skip
                go_simp
                (try with_reducible rfl)
              try simp only [Act.put, List.setIfInBounds_toArray, List.set_cons_zero, List.set_cons_succ]
              refine anyL_ready (rs := [8]) (by kernel_rfl) (by simp) ?_
              refine AllL.cons (o := moC8) rfl (fun K' hK => ?_) AllL.nil
              rw [if_pos (by rfl)]
              unfold moC8
              have r0 := M4_bA.cell 0
              simp only [List.getElem?_toArray, List.getElem?_cons_zero] at r0
              have t0 := M4_bA.fr 0
              go_simp
              obtain ⟨V5, hV5⟩ : ∃ V, V = V4.setCell ⟨bA, 0, none⟩ (.slice (some ⟨rA, 0, none⟩) 1 1) := ⟨_, rfl⟩
              have M5_bA : MBlk V5 bA #[.slice (some ⟨rA, 0, none⟩) 1 1] 33 := by rw [hV5]; exact mblk_one M4_bA _
              have M5_rB := (show MBlk V5 rB _ _ by rw [hV5]; exact mblk_far M4_rB (by first | exact NrBbA | exact fun e => NbArB e.symm) _)
              have M5_bB := (show MBlk V5 bB _ _ by rw [hV5]; exact mblk_far M4_bB (by first | exact NbBbA | exact fun e => NbAbB e.symm) _)
              have M5_rA := (show MBlk V5 rA _ _ by rw [hV5]; exact mblk_far M4_rA (by first | exact NrAbA | exact fun e => NbArA e.symm) _)
              have D5 : Below Wd.heap.size Wd V5 := by rw [hV5]; exact D4.setCell (p := ⟨bA, 0, none⟩) GbA _
              have SD5 := HSB.out _ _ D5 SD0
              simp only [← hV5]
              refine hK _ _ SD5 ?_
              clear hK K' hV5 r0 t0 D4 SD4 M4_bA M4_rB M4_bB M4_rA
              try simp only [Act.put, List.setIfInBounds_toArray, List.set_cons_zero, List.set_cons_succ]
              refine anyL_ready (rs := [9]) (by kernel_rfl) (by simp) ?_
              refine AllL.cons (o := moC9) rfl (fun K' hK => ?_) AllL.nil
              rw [if_pos (by rfl)]
              unfold moC9
              have r0 := M5_bB.cell 0
              simp only [List.getElem?_toArray, List.getElem?_cons_zero] at r0
              have t0 := M5_bB.fr 0
              go_simp
              obtain ⟨V6, hV6⟩ : ∃ V, V = V5.setCell ⟨bB, 0, none⟩ (.slice (some ⟨rB, 0, none⟩) 1 1) := ⟨_, rfl⟩
              have M6_bB : MBlk V6 bB #[.slice (some ⟨rB, 0, none⟩) 1 1] 33 := by rw [hV6]; exact mblk_one M5_bB _
              have M6_bA := (show MBlk V6 bA _ _ by rw [hV6]; exact mblk_far M5_bA (by first | exact NbAbB | exact fun e => NbBbA e.symm) _)
              have M6_rB := (show MBlk V6 rB _ _ by rw [hV6]; exact mblk_far M5_rB (by first | exact NrBbB | exact fun e => NbBrB e.symm) _)
              have M6_rA := (show MBlk V6 rA _ _ by rw [hV6]; exact mblk_far M5_rA (by first | exact NrAbB | exact fun e => NbBrA e.symm) _)
              have D6 : Below Wd.heap.size Wd V6 := by rw [hV6]; exact D5.setCell (p := ⟨bB, 0, none⟩) GbB _
              have SD6 := HSB.out _ _ D6 SD0
              simp only [← hV6]
              refine hK _ _ SD6 ?_
              clear hK K' hV6 r0 t0 D5 SD5 M5_bA M5_rB M5_bB M5_rA
              try simp only [Act.put, List.setIfInBounds_toArray, List.set_cons_zero, List.set_cons_succ]
              refine anyL_done (by kernel_rfl) ?_ _
              go_wp2
              go_meet
              exact ⟨bA, bB, rA, rB, rfl, rfl, M6_bA, M6_bB, M6_rA, M6_rB, SD6, HB.out.trans (D6.mono HB.out.size)⟩
          · rw [if_pos (by rfl)]
            unfold moC7
            go_simp
            obtain ⟨V2, hV2⟩ : ∃ V, V = V1.alloc (.cells #[.slice none 0 0] 33) := ⟨_, rfl⟩
            obtain ⟨bB, hbB⟩ : ∃ n, n = V1.heap.size := ⟨_, rfl⟩
            have bb : Below V1.heap.size V1 V2 := by rw [hV2]; exact (Below.refl _ _).alloc (Nat.le_refl _) _
            have M2_bB : MBlk V2 bB #[.slice none 0 0] 33 := by rw [hV2, hbB]; exact mblk_new _ _ _
            have M2_bA := M1_bA.more bb
            have NbAbB : bA ≠ bB := by have := M1_bA.lt; omega
            have D2 : Below Wd.heap.size Wd V2 := D1.trans (bb.mono D1.size)
            have GbB : Wd.heap.size ≤ bB := by rw [hbB]; exact D1.size
            have SD2 := HSB.out _ _ D2 SD0
            simp only [← hV2, ← hbB]
            refine hK _ _ SD2 ?_
            clear hK K' hV2 hbB bb D1 SD1 M1_bA
            try simp only [Act.put, List.setIfInBounds_toArray, List.set_cons_zero, List.set_cons_succ]
            refine anyL_ready (rs := [1, 4]) (by kernel_rfl) (by simp) ?_
            refine AllL.cons (o := moC1) rfl (fun K' hK => ?_) (AllL.cons (o := moC4) rfl (fun K' hK => ?_) AllL.nil)
            · rw [if_pos (by rfl)]
              unfold moC1
              go_simp
              obtain ⟨V3, hV3⟩ : ∃ V, V = V2.alloc (.cells #[.slice p1 f.path.length c1, .string f.id, .string f.title, .string f.link, .int .i64 f.upd, .slice q1 f.ents.length d1] 25) := ⟨_, rfl⟩
              obtain ⟨rA, hrA⟩ : ∃ n, n = V2.heap.size := ⟨_, rfl⟩
              have bb : Below V2.heap.size V2 V3 := by rw [hV3]; exact (Below.refl _ _).alloc (Nat.le_refl _) _
              have M3_rA : MBlk V3 rA #[.slice p1 f.path.length c1, .string f.id, .string f.title, .string f.link, .int .i64 f.upd, .slice q1 f.ents.length d1] 25 := by rw [hV3, hrA]; exact mblk_new _ _ _
              have M3_bA := M2_bA.more bb
              have NbArA : bA ≠ rA := by have := M2_bA.lt; omega
              have M3_bB := M2_bB.more bb
              have NbBrA : bB ≠ rA := by have := M2_bB.lt; omega
              have D3 : Below Wd.heap.size Wd V3 := D2.trans (bb.mono D2.size)
              have GrA : Wd.heap.size ≤ rA := by rw [hrA]; exact D2.size
              have SD3 := HSB.out _ _ D3 SD0
              simp only [← hV3, ← hrA]
              refine hK _ _ SD3 ?_
              clear hK K' hV3 hrA bb D2 SD2 M2_bA M2_bB
              try simp only [Act.put, List.setIfInBounds_toArray, List.set_cons_zero, List.set_cons_succ]
              refine anyL_take (i := 2) (oi := { dst := some 43, op := Go.Op.build 33 #[(0, Go.Operand.tmp 42)], type := 33, pos := "law.go:70", after := #[{ on := 1, ground := Go.Ground.data }], guard := none }) (v := ?_) rfl (by decide) (by kernel_rfl) (by kernel_rfl) (by kernel_rfl) (by kernel_rfl) (fun _ _ _ h => h) (Or.inl ⟨by rfl, ?_⟩) SD3 ?_
              rotate_left
              · intro wz hSz
                skip
                go_simp
                (try with_reducible rfl)
              try simp only [Act.put, List.setIfInBounds_toArray, List.set_cons_zero, List.set_cons_succ]
              refine anyL_ready (rs := [4, 8]) (by kernel_rfl) (by simp) ?_
              refine AllL.cons (o := moC4) rfl (fun K' hK => ?_) (AllL.cons (o := moC8) rfl (fun K' hK => ?_) AllL.nil)
              · rw [if_pos (by rfl)]
                unfold moC4
                go_simp
                obtain ⟨V4, hV4⟩ : ∃ V, V = V3.alloc (.cells #[.slice p2 g.path.length c2, .string g.id, .string g.title, .string g.link, .int .i64 g.upd, .slice q2 g.ents.length d2] 25) := ⟨_, rfl⟩
                obtain ⟨rB, hrB⟩ : ∃ n, n = V3.heap.size := ⟨_, rfl⟩
                have bb : Below V3.heap.size V3 V4 := by rw [hV4]; exact (Below.refl _ _).alloc (Nat.le_refl _) _
                have M4_rB : MBlk V4 rB #[.slice p2 g.path.length c2, .string g.id, .string g.title, .string g.link, .int .i64 g.upd, .slice q2 g.ents.length d2] 25 := by rw [hV4, hrB]; exact mblk_new _ _ _
                have M4_bA := M3_bA.more bb
                have NbArB : bA ≠ rB := by have := M3_bA.lt; omega
                have M4_bB := M3_bB.more bb
                have NbBrB : bB ≠ rB := by have := M3_bB.lt; omega
                have M4_rA := M3_rA.more bb
                have NrArB : rA ≠ rB := by have := M3_rA.lt; omega
                have D4 : Below Wd.heap.size Wd V4 := D3.trans (bb.mono D3.size)
                have GrB : Wd.heap.size ≤ rB := by rw [hrB]; exact D3.size
                have SD4 := HSB.out _ _ D4 SD0
                simp only [← hV4, ← hrB]
                refine hK _ _ SD4 ?_
                clear hK K' hV4 hrB bb D3 SD3 M3_bA M3_bB M3_rA
                try simp only [Act.put, List.setIfInBounds_toArray, List.set_cons_zero, List.set_cons_succ]
                refine anyL_take (i := 5) (oi := { dst := some 46, op := Go.Op.build 33 #[(0, Go.Operand.tmp 45)], type := 33, pos := "law.go:70", after := #[{ on := 4, ground := Go.Ground.data }, { on := 8, ground := Go.Ground.gcOnly Go.Departure.lateStores }], guard := none }) (v := ?_) rfl (by decide) (by kernel_rfl) (by kernel_rfl) (by kernel_rfl) (by kernel_rfl) (fun _ _ _ h => h) (Or.inl ⟨by rfl, ?_⟩) SD4 ?_
                rotate_left
                · intro wz hSz
                  skip
                  go_simp
                  (try with_reducible rfl)
                try simp only [Act.put, List.setIfInBounds_toArray, List.set_cons_zero, List.set_cons_succ]
                refine anyL_ready (rs := [8]) (by kernel_rfl) (by simp) ?_
                refine AllL.cons (o := moC8) rfl (fun K' hK => ?_) AllL.nil
                rw [if_pos (by rfl)]
                unfold moC8
                have r0 := M4_bA.cell 0
                simp only [List.getElem?_toArray, List.getElem?_cons_zero] at r0
                have t0 := M4_bA.fr 0
                go_simp
                obtain ⟨V5, hV5⟩ : ∃ V, V = V4.setCell ⟨bA, 0, none⟩ (.slice (some ⟨rA, 0, none⟩) 1 1) := ⟨_, rfl⟩
                have M5_bA : MBlk V5 bA #[.slice (some ⟨rA, 0, none⟩) 1 1] 33 := by rw [hV5]; exact mblk_one M4_bA _
                have M5_bB := (show MBlk V5 bB _ _ by rw [hV5]; exact mblk_far M4_bB (by first | exact NbBbA | exact fun e => NbAbB e.symm) _)
                have M5_rA := (show MBlk V5 rA _ _ by rw [hV5]; exact mblk_far M4_rA (by first | exact NrAbA | exact fun e => NbArA e.symm) _)
                have M5_rB := (show MBlk V5 rB _ _ by rw [hV5]; exact mblk_far M4_rB (by first | exact NrBbA | exact fun e => NbArB e.symm) _)
                have D5 : Below Wd.heap.size Wd V5 := by rw [hV5]; exact D4.setCell (p := ⟨bA, 0, none⟩) GbA _
                have SD5 := HSB.out _ _ D5 SD0
                simp only [← hV5]
                refine hK _ _ SD5 ?_
                clear hK K' hV5 r0 t0 D4 SD4 M4_bA M4_bB M4_rA M4_rB
                try simp only [Act.put, List.setIfInBounds_toArray, List.set_cons_zero, List.set_cons_succ]
                refine anyL_ready (rs := [9]) (by kernel_rfl) (by simp) ?_
                refine AllL.cons (o := moC9) rfl (fun K' hK => ?_) AllL.nil
                rw [if_pos (by rfl)]
                unfold moC9
                have r0 := M5_bB.cell 0
                simp only [List.getElem?_toArray, List.getElem?_cons_zero] at r0
                have t0 := M5_bB.fr 0
                go_simp
                obtain ⟨V6, hV6⟩ : ∃ V, V = V5.setCell ⟨bB, 0, none⟩ (.slice (some ⟨rB, 0, none⟩) 1 1) := ⟨_, rfl⟩
                have M6_bB : MBlk V6 bB #[.slice (some ⟨rB, 0, none⟩) 1 1] 33 := by rw [hV6]; exact mblk_one M5_bB _
                have M6_bA := (show MBlk V6 bA _ _ by rw [hV6]; exact mblk_far M5_bA (by first | exact NbAbB | exact fun e => NbBbA e.symm) _)
                have M6_rA := (show MBlk V6 rA _ _ by rw [hV6]; exact mblk_far M5_rA (by first | exact NrAbB | exact fun e => NbBrA e.symm) _)
                have M6_rB := (show MBlk V6 rB _ _ by rw [hV6]; exact mblk_far M5_rB (by first | exact NrBbB | exact fun e => NbBrB e.symm) _)
                have D6 : Below Wd.heap.size Wd V6 := by rw [hV6]; exact D5.setCell (p := ⟨bB, 0, none⟩) GbB _
                have SD6 := HSB.out _ _ D6 SD0
                simp only [← hV6]
                refine hK _ _ SD6 ?_
                clear hK K' hV6 r0 t0 D5 SD5 M5_bA M5_bB M5_rA M5_rB
                try simp only [Act.put, List.setIfInBounds_toArray, List.set_cons_zero, List.set_cons_succ]
                refine anyL_done (by kernel_rfl) ?_ _
                go_wp2
                go_meet
                exact ⟨bA, bB, rA, rB, rfl, rfl, M6_bA, M6_bB, M6_rA, M6_rB, SD6, HB.out.trans (D6.mono HB.out.size)⟩
              · rw [if_pos (by rfl)]
                unfold moC8
                have r0 := M3_bA.cell 0
                simp only [List.getElem?_toArray, List.getElem?_cons_zero] at r0
                have t0 := M3_bA.fr 0
                go_simp
                obtain ⟨V4, hV4⟩ : ∃ V, V = V3.setCell ⟨bA, 0, none⟩ (.slice (some ⟨rA, 0, none⟩) 1 1) := ⟨_, rfl⟩
                have M4_bA : MBlk V4 bA #[.slice (some ⟨rA, 0, none⟩) 1 1] 33 := by rw [hV4]; exact mblk_one M3_bA _
                have M4_bB := (show MBlk V4 bB _ _ by rw [hV4]; exact mblk_far M3_bB (by first | exact NbBbA | exact fun e => NbAbB e.symm) _)
                have M4_rA := (show MBlk V4 rA _ _ by rw [hV4]; exact mblk_far M3_rA (by first | exact NrAbA | exact fun e => NbArA e.symm) _)
                have D4 : Below Wd.heap.size Wd V4 := by rw [hV4]; exact D3.setCell (p := ⟨bA, 0, none⟩) GbA _
                have SD4 := HSB.out _ _ D4 SD0
                simp only [← hV4]
                refine hK _ _ SD4 ?_
                clear hK K' hV4 r0 t0 D3 SD3 M3_bA M3_bB M3_rA
                try simp only [Act.put, List.setIfInBounds_toArray, List.set_cons_zero, List.set_cons_succ]
                refine anyL_ready (rs := [4]) (by kernel_rfl) (by simp) ?_
                refine AllL.cons (o := moC4) rfl (fun K' hK => ?_) AllL.nil
                rw [if_pos (by rfl)]
                unfold moC4
                go_simp
                obtain ⟨V5, hV5⟩ : ∃ V, V = V4.alloc (.cells #[.slice p2 g.path.length c2, .string g.id, .string g.title, .string g.link, .int .i64 g.upd, .slice q2 g.ents.length d2] 25) := ⟨_, rfl⟩
                obtain ⟨rB, hrB⟩ : ∃ n, n = V4.heap.size := ⟨_, rfl⟩
                have bb : Below V4.heap.size V4 V5 := by rw [hV5]; exact (Below.refl _ _).alloc (Nat.le_refl _) _
                have M5_rB : MBlk V5 rB #[.slice p2 g.path.length c2, .string g.id, .string g.title, .string g.link, .int .i64 g.upd, .slice q2 g.ents.length d2] 25 := by rw [hV5, hrB]; exact mblk_new _ _ _
                have M5_bA := M4_bA.more bb
                have NbArB : bA ≠ rB := by have := M4_bA.lt; omega
                have M5_bB := M4_bB.more bb
                have NbBrB : bB ≠ rB := by have := M4_bB.lt; omega
                have M5_rA := M4_rA.more bb
                have NrArB : rA ≠ rB := by have := M4_rA.lt; omega
                have D5 : Below Wd.heap.size Wd V5 := D4.trans (bb.mono D4.size)
                have GrB : Wd.heap.size ≤ rB := by rw [hrB]; exact D4.size
                have SD5 := HSB.out _ _ D5 SD0
                simp only [← hV5, ← hrB]
                refine hK _ _ SD5 ?_
                clear hK K' hV5 hrB bb D4 SD4 M4_bA M4_bB M4_rA
                try simp only [Act.put, List.setIfInBounds_toArray, List.set_cons_zero, List.set_cons_succ]
                refine anyL_take (i := 5) (oi := { dst := some 46, op := Go.Op.build 33 #[(0, Go.Operand.tmp 45)], type := 33, pos := "law.go:70", after := #[{ on := 4, ground := Go.Ground.data }, { on := 8, ground := Go.Ground.gcOnly Go.Departure.lateStores }], guard := none }) (v := ?_) rfl (by decide) (by kernel_rfl) (by kernel_rfl) (by kernel_rfl) (by kernel_rfl) (fun _ _ _ h => h) (Or.inl ⟨by rfl, ?_⟩) SD5 ?_
                rotate_left
                · intro wz hSz
                  skip
                  go_simp
                  (try with_reducible rfl)
                try simp only [Act.put, List.setIfInBounds_toArray, List.set_cons_zero, List.set_cons_succ]
                refine anyL_ready (rs := [9]) (by kernel_rfl) (by simp) ?_
                refine AllL.cons (o := moC9) rfl (fun K' hK => ?_) AllL.nil
                rw [if_pos (by rfl)]
                unfold moC9
                have r0 := M5_bB.cell 0
                simp only [List.getElem?_toArray, List.getElem?_cons_zero] at r0
                have t0 := M5_bB.fr 0
                go_simp
                obtain ⟨V6, hV6⟩ : ∃ V, V = V5.setCell ⟨bB, 0, none⟩ (.slice (some ⟨rB, 0, none⟩) 1 1) := ⟨_, rfl⟩
                have M6_bB : MBlk V6 bB #[.slice (some ⟨rB, 0, none⟩) 1 1] 33 := by rw [hV6]; exact mblk_one M5_bB _
                have M6_bA := (show MBlk V6 bA _ _ by rw [hV6]; exact mblk_far M5_bA (by first | exact NbAbB | exact fun e => NbBbA e.symm) _)
                have M6_rA := (show MBlk V6 rA _ _ by rw [hV6]; exact mblk_far M5_rA (by first | exact NrAbB | exact fun e => NbBrA e.symm) _)
                have M6_rB := (show MBlk V6 rB _ _ by rw [hV6]; exact mblk_far M5_rB (by first | exact NrBbB | exact fun e => NbBrB e.symm) _)
                have D6 : Below Wd.heap.size Wd V6 := by rw [hV6]; exact D5.setCell (p := ⟨bB, 0, none⟩) GbB _
                have SD6 := HSB.out _ _ D6 SD0
                simp only [← hV6]
                refine hK _ _ SD6 ?_
                clear hK K' hV6 r0 t0 D5 SD5 M5_bA M5_bB M5_rA M5_rB
                try simp only [Act.put, List.setIfInBounds_toArray, List.set_cons_zero, List.set_cons_succ]
                refine anyL_done (by kernel_rfl) ?_ _
                go_wp2
                go_meet
                exact ⟨bA, bB, rA, rB, rfl, rfl, M6_bA, M6_bB, M6_rA, M6_rB, SD6, HB.out.trans (D6.mono HB.out.size)⟩
            · rw [if_pos (by rfl)]
              unfold moC4
              go_simp
              obtain ⟨V3, hV3⟩ : ∃ V, V = V2.alloc (.cells #[.slice p2 g.path.length c2, .string g.id, .string g.title, .string g.link, .int .i64 g.upd, .slice q2 g.ents.length d2] 25) := ⟨_, rfl⟩
              obtain ⟨rB, hrB⟩ : ∃ n, n = V2.heap.size := ⟨_, rfl⟩
              have bb : Below V2.heap.size V2 V3 := by rw [hV3]; exact (Below.refl _ _).alloc (Nat.le_refl _) _
              have M3_rB : MBlk V3 rB #[.slice p2 g.path.length c2, .string g.id, .string g.title, .string g.link, .int .i64 g.upd, .slice q2 g.ents.length d2] 25 := by rw [hV3, hrB]; exact mblk_new _ _ _
              have M3_bA := M2_bA.more bb
              have NbArB : bA ≠ rB := by have := M2_bA.lt; omega
              have M3_bB := M2_bB.more bb
              have NbBrB : bB ≠ rB := by have := M2_bB.lt; omega
              have D3 : Below Wd.heap.size Wd V3 := D2.trans (bb.mono D2.size)
              have GrB : Wd.heap.size ≤ rB := by rw [hrB]; exact D2.size
              have SD3 := HSB.out _ _ D3 SD0
              simp only [← hV3, ← hrB]
              refine hK _ _ SD3 ?_
              clear hK K' hV3 hrB bb D2 SD2 M2_bA M2_bB
              try simp only [Act.put, List.setIfInBounds_toArray, List.set_cons_zero, List.set_cons_succ]
              refine anyL_take (i := 5) (oi := { dst := some 46, op := Go.Op.build 33 #[(0, Go.Operand.tmp 45)], type := 33, pos := "law.go:70", after := #[{ on := 4, ground := Go.Ground.data }, { on := 8, ground := Go.Ground.gcOnly Go.Departure.lateStores }], guard := none }) (v := ?_) rfl (by decide) (by kernel_rfl) (by kernel_rfl) (by kernel_rfl) (by kernel_rfl) (fun _ _ _ h => h) (Or.inl ⟨by rfl, ?_⟩) SD3 ?_
              rotate_left
              · intro wz hSz
                skip
                go_simp
                (try with_reducible rfl)
              try simp only [Act.put, List.setIfInBounds_toArray, List.set_cons_zero, List.set_cons_succ]
              refine anyL_ready (rs := [1]) (by kernel_rfl) (by simp) ?_
              refine AllL.cons (o := moC1) rfl (fun K' hK => ?_) AllL.nil
              rw [if_pos (by rfl)]
              unfold moC1
              go_simp
              obtain ⟨V4, hV4⟩ : ∃ V, V = V3.alloc (.cells #[.slice p1 f.path.length c1, .string f.id, .string f.title, .string f.link, .int .i64 f.upd, .slice q1 f.ents.length d1] 25) := ⟨_, rfl⟩
              obtain ⟨rA, hrA⟩ : ∃ n, n = V3.heap.size := ⟨_, rfl⟩
              have bb : Below V3.heap.size V3 V4 := by rw [hV4]; exact (Below.refl _ _).alloc (Nat.le_refl _) _
              have M4_rA : MBlk V4 rA #[.slice p1 f.path.length c1, .string f.id, .string f.title, .string f.link, .int .i64 f.upd, .slice q1 f.ents.length d1] 25 := by rw [hV4, hrA]; exact mblk_new _ _ _
              have M4_bA := M3_bA.more bb
              have NbArA : bA ≠ rA := by have := M3_bA.lt; omega
              have M4_bB := M3_bB.more bb
              have NbBrA : bB ≠ rA := by have := M3_bB.lt; omega
              have M4_rB := M3_rB.more bb
              have NrBrA : rB ≠ rA := by have := M3_rB.lt; omega
              have D4 : Below Wd.heap.size Wd V4 := D3.trans (bb.mono D3.size)
              have GrA : Wd.heap.size ≤ rA := by rw [hrA]; exact D3.size
              have SD4 := HSB.out _ _ D4 SD0
              simp only [← hV4, ← hrA]
              refine hK _ _ SD4 ?_
              clear hK K' hV4 hrA bb D3 SD3 M3_bA M3_bB M3_rB
              try simp only [Act.put, List.setIfInBounds_toArray, List.set_cons_zero, List.set_cons_succ]
              refine anyL_take (i := 2) (oi := { dst := some 43, op := Go.Op.build 33 #[(0, Go.Operand.tmp 42)], type := 33, pos := "law.go:70", after := #[{ on := 1, ground := Go.Ground.data }], guard := none }) (v := ?_) rfl (by decide) (by kernel_rfl) (by kernel_rfl) (by kernel_rfl) (by kernel_rfl) (fun _ _ _ h => h) (Or.inl ⟨by rfl, ?_⟩) SD4 ?_
              rotate_left
              · intro wz hSz
                skip
                go_simp
                (try with_reducible rfl)
              try simp only [Act.put, List.setIfInBounds_toArray, List.set_cons_zero, List.set_cons_succ]
              refine anyL_ready (rs := [8]) (by kernel_rfl) (by simp) ?_
              refine AllL.cons (o := moC8) rfl (fun K' hK => ?_) AllL.nil
              rw [if_pos (by rfl)]
              unfold moC8
              have r0 := M4_bA.cell 0
              simp only [List.getElem?_toArray, List.getElem?_cons_zero] at r0
              have t0 := M4_bA.fr 0
              go_simp
              obtain ⟨V5, hV5⟩ : ∃ V, V = V4.setCell ⟨bA, 0, none⟩ (.slice (some ⟨rA, 0, none⟩) 1 1) := ⟨_, rfl⟩
              have M5_bA : MBlk V5 bA #[.slice (some ⟨rA, 0, none⟩) 1 1] 33 := by rw [hV5]; exact mblk_one M4_bA _
              have M5_bB := (show MBlk V5 bB _ _ by rw [hV5]; exact mblk_far M4_bB (by first | exact NbBbA | exact fun e => NbAbB e.symm) _)
              have M5_rB := (show MBlk V5 rB _ _ by rw [hV5]; exact mblk_far M4_rB (by first | exact NrBbA | exact fun e => NbArB e.symm) _)
              have M5_rA := (show MBlk V5 rA _ _ by rw [hV5]; exact mblk_far M4_rA (by first | exact NrAbA | exact fun e => NbArA e.symm) _)
              have D5 : Below Wd.heap.size Wd V5 := by rw [hV5]; exact D4.setCell (p := ⟨bA, 0, none⟩) GbA _
              have SD5 := HSB.out _ _ D5 SD0
              simp only [← hV5]
              refine hK _ _ SD5 ?_
              clear hK K' hV5 r0 t0 D4 SD4 M4_bA M4_bB M4_rB M4_rA
              try simp only [Act.put, List.setIfInBounds_toArray, List.set_cons_zero, List.set_cons_succ]
              refine anyL_ready (rs := [9]) (by kernel_rfl) (by simp) ?_
              refine AllL.cons (o := moC9) rfl (fun K' hK => ?_) AllL.nil
              rw [if_pos (by rfl)]
              unfold moC9
              have r0 := M5_bB.cell 0
              simp only [List.getElem?_toArray, List.getElem?_cons_zero] at r0
              have t0 := M5_bB.fr 0
              go_simp
              obtain ⟨V6, hV6⟩ : ∃ V, V = V5.setCell ⟨bB, 0, none⟩ (.slice (some ⟨rB, 0, none⟩) 1 1) := ⟨_, rfl⟩
              have M6_bB : MBlk V6 bB #[.slice (some ⟨rB, 0, none⟩) 1 1] 33 := by rw [hV6]; exact mblk_one M5_bB _
              have M6_bA := (show MBlk V6 bA _ _ by rw [hV6]; exact mblk_far M5_bA (by first | exact NbAbB | exact fun e => NbBbA e.symm) _)
              have M6_rB := (show MBlk V6 rB _ _ by rw [hV6]; exact mblk_far M5_rB (by first | exact NrBbB | exact fun e => NbBrB e.symm) _)
              have M6_rA := (show MBlk V6 rA _ _ by rw [hV6]; exact mblk_far M5_rA (by first | exact NrAbB | exact fun e => NbBrA e.symm) _)
              have D6 : Below Wd.heap.size Wd V6 := by rw [hV6]; exact D5.setCell (p := ⟨bB, 0, none⟩) GbB _
              have SD6 := HSB.out _ _ D6 SD0
              simp only [← hV6]
              refine hK _ _ SD6 ?_
              clear hK K' hV6 r0 t0 D5 SD5 M5_bA M5_bB M5_rB M5_rA
              try simp only [Act.put, List.setIfInBounds_toArray, List.set_cons_zero, List.set_cons_succ]
              refine anyL_done (by kernel_rfl) ?_ _
              go_wp2
              go_meet
              exact ⟨bA, bB, rA, rB, rfl, rfl, M6_bA, M6_bB, M6_rA, M6_rB, SD6, HB.out.trans (D6.mono HB.out.size)⟩
        · rw [if_pos (by rfl)]
          unfold moC7
          go_simp
          obtain ⟨V1, hV1⟩ : ∃ V, V = Wd.alloc (.cells #[.slice none 0 0] 33) := ⟨_, rfl⟩
          obtain ⟨bB, hbB⟩ : ∃ n, n = Wd.heap.size := ⟨_, rfl⟩
          have bb : Below Wd.heap.size Wd V1 := by rw [hV1]; exact (Below.refl _ _).alloc (Nat.le_refl _) _
          have M1_bB : MBlk V1 bB #[.slice none 0 0] 33 := by rw [hV1, hbB]; exact mblk_new _ _ _
          have D1 : Below Wd.heap.size Wd V1 := D0.trans (bb.mono D0.size)
          have GbB : Wd.heap.size ≤ bB := by rw [hbB]; exact D0.size
          have SD1 := HSB.out _ _ D1 SD0
          simp only [← hV1, ← hbB]
          refine hK _ _ SD1 ?_
          clear hK K' hV1 hbB bb D0
          try simp only [Act.put, List.setIfInBounds_toArray, List.set_cons_zero, List.set_cons_succ]
          refine anyL_ready (rs := [1, 4, 6]) (by kernel_rfl) (by simp) ?_
          refine AllL.cons (o := moC1) rfl (fun K' hK => ?_) (AllL.cons (o := moC4) rfl (fun K' hK => ?_) (AllL.cons (o := moC6) rfl (fun K' hK => ?_) AllL.nil))
          · rw [if_pos (by rfl)]
            unfold moC1
            go_simp
            obtain ⟨V2, hV2⟩ : ∃ V, V = V1.alloc (.cells #[.slice p1 f.path.length c1, .string f.id, .string f.title, .string f.link, .int .i64 f.upd, .slice q1 f.ents.length d1] 25) := ⟨_, rfl⟩
            obtain ⟨rA, hrA⟩ : ∃ n, n = V1.heap.size := ⟨_, rfl⟩
            have bb : Below V1.heap.size V1 V2 := by rw [hV2]; exact (Below.refl _ _).alloc (Nat.le_refl _) _
            have M2_rA : MBlk V2 rA #[.slice p1 f.path.length c1, .string f.id, .string f.title, .string f.link, .int .i64 f.upd, .slice q1 f.ents.length d1] 25 := by rw [hV2, hrA]; exact mblk_new _ _ _
            have M2_bB := M1_bB.more bb
            have NbBrA : bB ≠ rA := by have := M1_bB.lt; omega
            have D2 : Below Wd.heap.size Wd V2 := D1.trans (bb.mono D1.size)
            have GrA : Wd.heap.size ≤ rA := by rw [hrA]; exact D1.size
            have SD2 := HSB.out _ _ D2 SD0
            simp only [← hV2, ← hrA]
            refine hK _ _ SD2 ?_
            clear hK K' hV2 hrA bb D1 SD1 M1_bB
            try simp only [Act.put, List.setIfInBounds_toArray, List.set_cons_zero, List.set_cons_succ]
            refine anyL_take (i := 2) (oi := { dst := some 43, op := Go.Op.build 33 #[(0, Go.Operand.tmp 42)], type := 33, pos := "law.go:70", after := #[{ on := 1, ground := Go.Ground.data }], guard := none }) (v := ?_) rfl (by decide) (by kernel_rfl) (by kernel_rfl) (by kernel_rfl) (by kernel_rfl) (fun _ _ _ h => h) (Or.inl ⟨by rfl, ?_⟩) SD2 ?_
            rotate_left
            · intro wz hSz
              skip
              go_simp
              (try with_reducible rfl)
            try simp only [Act.put, List.setIfInBounds_toArray, List.set_cons_zero, List.set_cons_succ]
            refine anyL_ready (rs := [4, 6]) (by kernel_rfl) (by simp) ?_
            refine AllL.cons (o := moC4) rfl (fun K' hK => ?_) (AllL.cons (o := moC6) rfl (fun K' hK => ?_) AllL.nil)
            · rw [if_pos (by rfl)]
              unfold moC4
              go_simp
              obtain ⟨V3, hV3⟩ : ∃ V, V = V2.alloc (.cells #[.slice p2 g.path.length c2, .string g.id, .string g.title, .string g.link, .int .i64 g.upd, .slice q2 g.ents.length d2] 25) := ⟨_, rfl⟩
              obtain ⟨rB, hrB⟩ : ∃ n, n = V2.heap.size := ⟨_, rfl⟩
              have bb : Below V2.heap.size V2 V3 := by rw [hV3]; exact (Below.refl _ _).alloc (Nat.le_refl _) _
              have M3_rB : MBlk V3 rB #[.slice p2 g.path.length c2, .string g.id, .string g.title, .string g.link, .int .i64 g.upd, .slice q2 g.ents.length d2] 25 := by rw [hV3, hrB]; exact mblk_new _ _ _
              have M3_bB := M2_bB.more bb
              have NbBrB : bB ≠ rB := by have := M2_bB.lt; omega
              have M3_rA := M2_rA.more bb
              have NrArB : rA ≠ rB := by have := M2_rA.lt; omega
              have D3 : Below Wd.heap.size Wd V3 := D2.trans (bb.mono D2.size)
              have GrB : Wd.heap.size ≤ rB := by rw [hrB]; exact D2.size
              have SD3 := HSB.out _ _ D3 SD0
              simp only [← hV3, ← hrB]
              refine hK _ _ SD3 ?_
              clear hK K' hV3 hrB bb D2 SD2 M2_bB M2_rA
              try simp only [Act.put, List.setIfInBounds_toArray, List.set_cons_zero, List.set_cons_succ]
              refine anyL_take (i := 5) (oi := { dst := some 46, op := Go.Op.build 33 #[(0, Go.Operand.tmp 45)], type := 33, pos := "law.go:70", after := #[{ on := 4, ground := Go.Ground.data }, { on := 8, ground := Go.Ground.gcOnly Go.Departure.lateStores }], guard := none }) (v := ?_) rfl (by decide) (by kernel_rfl) (by kernel_rfl) (by kernel_rfl) (by kernel_rfl) (fun _ _ _ h => h) (Or.inl ⟨by rfl, ?_⟩) SD3 ?_
              rotate_left
              · intro wz hSz
                skip
                go_simp
                (try with_reducible rfl)
              try simp only [Act.put, List.setIfInBounds_toArray, List.set_cons_zero, List.set_cons_succ]
              refine anyL_ready (rs := [6]) (by kernel_rfl) (by simp) ?_
              refine AllL.cons (o := moC6) rfl (fun K' hK => ?_) AllL.nil
              rw [if_pos (by rfl)]
              unfold moC6
              go_simp
              obtain ⟨V4, hV4⟩ : ∃ V, V = V3.alloc (.cells #[.slice none 0 0] 33) := ⟨_, rfl⟩
              obtain ⟨bA, hbA⟩ : ∃ n, n = V3.heap.size := ⟨_, rfl⟩
              have bb : Below V3.heap.size V3 V4 := by rw [hV4]; exact (Below.refl _ _).alloc (Nat.le_refl _) _
              have M4_bA : MBlk V4 bA #[.slice none 0 0] 33 := by rw [hV4, hbA]; exact mblk_new _ _ _
              have M4_bB := M3_bB.more bb
              have NbBbA : bB ≠ bA := by have := M3_bB.lt; omega
              have M4_rA := M3_rA.more bb
              have NrAbA : rA ≠ bA := by have := M3_rA.lt; omega
              have M4_rB := M3_rB.more bb
              have NrBbA : rB ≠ bA := by have := M3_rB.lt; omega
              have D4 : Below Wd.heap.size Wd V4 := D3.trans (bb.mono D3.size)
              have GbA : Wd.heap.size ≤ bA := by rw [hbA]; exact D3.size
              have SD4 := HSB.out _ _ D4 SD0
              simp only [← hV4, ← hbA]
              refine hK _ _ SD4 ?_
              clear hK K' hV4 hbA bb D3 SD3 M3_bB M3_rA M3_rB
              try simp only [Act.put, List.setIfInBounds_toArray, List.set_cons_zero, List.set_cons_succ]
              refine anyL_ready (rs := [8]) (by kernel_rfl) (by simp) ?_
              refine AllL.cons (o := moC8) rfl (fun K' hK => ?_) AllL.nil
              rw [if_pos (by rfl)]
              unfold moC8
              have r0 := M4_bA.cell 0
              simp only [List.getElem?_toArray, List.getElem?_cons_zero] at r0
              have t0 := M4_bA.fr 0
              go_simp
              obtain ⟨V5, hV5⟩ : ∃ V, V = V4.setCell ⟨bA, 0, none⟩ (.slice (some ⟨rA, 0, none⟩) 1 1) := ⟨_, rfl⟩
              have M5_bA : MBlk V5 bA #[.slice (some ⟨rA, 0, none⟩) 1 1] 33 := by rw [hV5]; exact mblk_one M4_bA _
              have M5_bB := (show MBlk V5 bB _ _ by rw [hV5]; exact mblk_far M4_bB (by first | exact NbBbA | exact fun e => NbAbB e.symm) _)
              have M5_rA := (show MBlk V5 rA _ _ by rw [hV5]; exact mblk_far M4_rA (by first | exact NrAbA | exact fun e => NbArA e.symm) _)
              have M5_rB := (show MBlk V5 rB _ _ by rw [hV5]; exact mblk_far M4_rB (by first | exact NrBbA | exact fun e => NbArB e.symm) _)
              have D5 : Below Wd.heap.size Wd V5 := by rw [hV5]; exact D4.setCell (p := ⟨bA, 0, none⟩) GbA _
              have SD5 := HSB.out _ _ D5 SD0
              simp only [← hV5]
              refine hK _ _ SD5 ?_
              clear hK K' hV5 r0 t0 D4 SD4 M4_bB M4_rA M4_rB M4_bA
              try simp only [Act.put, List.setIfInBounds_toArray, List.set_cons_zero, List.set_cons_succ]
              refine anyL_ready (rs := [9]) (by kernel_rfl) (by simp) ?_
              refine AllL.cons (o := moC9) rfl (fun K' hK => ?_) AllL.nil
              rw [if_pos (by rfl)]
              unfold moC9
              have r0 := M5_bB.cell 0
              simp only [List.getElem?_toArray, List.getElem?_cons_zero] at r0
              have t0 := M5_bB.fr 0
              go_simp
              obtain ⟨V6, hV6⟩ : ∃ V, V = V5.setCell ⟨bB, 0, none⟩ (.slice (some ⟨rB, 0, none⟩) 1 1) := ⟨_, rfl⟩
              have M6_bB : MBlk V6 bB #[.slice (some ⟨rB, 0, none⟩) 1 1] 33 := by rw [hV6]; exact mblk_one M5_bB _
              have M6_rA := (show MBlk V6 rA _ _ by rw [hV6]; exact mblk_far M5_rA (by first | exact NrAbB | exact fun e => NbBrA e.symm) _)
              have M6_rB := (show MBlk V6 rB _ _ by rw [hV6]; exact mblk_far M5_rB (by first | exact NrBbB | exact fun e => NbBrB e.symm) _)
              have M6_bA := (show MBlk V6 bA _ _ by rw [hV6]; exact mblk_far M5_bA (by first | exact NbAbB | exact fun e => NbBbA e.symm) _)
              have D6 : Below Wd.heap.size Wd V6 := by rw [hV6]; exact D5.setCell (p := ⟨bB, 0, none⟩) GbB _
              have SD6 := HSB.out _ _ D6 SD0
              simp only [← hV6]
              refine hK _ _ SD6 ?_
              clear hK K' hV6 r0 t0 D5 SD5 M5_bB M5_rA M5_rB M5_bA
              try simp only [Act.put, List.setIfInBounds_toArray, List.set_cons_zero, List.set_cons_succ]
              refine anyL_done (by kernel_rfl) ?_ _
              go_wp2
              go_meet
              exact ⟨bA, bB, rA, rB, rfl, rfl, M6_bA, M6_bB, M6_rA, M6_rB, SD6, HB.out.trans (D6.mono HB.out.size)⟩
            · rw [if_pos (by rfl)]
              unfold moC6
              go_simp
              obtain ⟨V3, hV3⟩ : ∃ V, V = V2.alloc (.cells #[.slice none 0 0] 33) := ⟨_, rfl⟩
              obtain ⟨bA, hbA⟩ : ∃ n, n = V2.heap.size := ⟨_, rfl⟩
              have bb : Below V2.heap.size V2 V3 := by rw [hV3]; exact (Below.refl _ _).alloc (Nat.le_refl _) _
              have M3_bA : MBlk V3 bA #[.slice none 0 0] 33 := by rw [hV3, hbA]; exact mblk_new _ _ _
              have M3_bB := M2_bB.more bb
              have NbBbA : bB ≠ bA := by have := M2_bB.lt; omega
              have M3_rA := M2_rA.more bb
              have NrAbA : rA ≠ bA := by have := M2_rA.lt; omega
              have D3 : Below Wd.heap.size Wd V3 := D2.trans (bb.mono D2.size)
              have GbA : Wd.heap.size ≤ bA := by rw [hbA]; exact D2.size
              have SD3 := HSB.out _ _ D3 SD0
              simp only [← hV3, ← hbA]
              refine hK _ _ SD3 ?_
              clear hK K' hV3 hbA bb D2 SD2 M2_bB M2_rA
              try simp only [Act.put, List.setIfInBounds_toArray, List.set_cons_zero, List.set_cons_succ]
              refine anyL_ready (rs := [4, 8]) (by kernel_rfl) (by simp) ?_
              refine AllL.cons (o := moC4) rfl (fun K' hK => ?_) (AllL.cons (o := moC8) rfl (fun K' hK => ?_) AllL.nil)
              · rw [if_pos (by rfl)]
                unfold moC4
                go_simp
                obtain ⟨V4, hV4⟩ : ∃ V, V = V3.alloc (.cells #[.slice p2 g.path.length c2, .string g.id, .string g.title, .string g.link, .int .i64 g.upd, .slice q2 g.ents.length d2] 25) := ⟨_, rfl⟩
                obtain ⟨rB, hrB⟩ : ∃ n, n = V3.heap.size := ⟨_, rfl⟩
                have bb : Below V3.heap.size V3 V4 := by rw [hV4]; exact (Below.refl _ _).alloc (Nat.le_refl _) _
                have M4_rB : MBlk V4 rB #[.slice p2 g.path.length c2, .string g.id, .string g.title, .string g.link, .int .i64 g.upd, .slice q2 g.ents.length d2] 25 := by rw [hV4, hrB]; exact mblk_new _ _ _
                have M4_bB := M3_bB.more bb
                have NbBrB : bB ≠ rB := by have := M3_bB.lt; omega
                have M4_rA := M3_rA.more bb
                have NrArB : rA ≠ rB := by have := M3_rA.lt; omega
                have M4_bA := M3_bA.more bb
                have NbArB : bA ≠ rB := by have := M3_bA.lt; omega
                have D4 : Below Wd.heap.size Wd V4 := D3.trans (bb.mono D3.size)
                have GrB : Wd.heap.size ≤ rB := by rw [hrB]; exact D3.size
                have SD4 := HSB.out _ _ D4 SD0
                simp only [← hV4, ← hrB]
                refine hK _ _ SD4 ?_
                clear hK K' hV4 hrB bb D3 SD3 M3_bB M3_rA M3_bA
                try simp only [Act.put, List.setIfInBounds_toArray, List.set_cons_zero, List.set_cons_succ]
                refine anyL_take (i := 5) (oi := { dst := some 46, op := Go.Op.build 33 #[(0, Go.Operand.tmp 45)], type := 33, pos := "law.go:70", after := #[{ on := 4, ground := Go.Ground.data }, { on := 8, ground := Go.Ground.gcOnly Go.Departure.lateStores }], guard := none }) (v := ?_) rfl (by decide) (by kernel_rfl) (by kernel_rfl) (by kernel_rfl) (by kernel_rfl) (fun _ _ _ h => h) (Or.inl ⟨by rfl, ?_⟩) SD4 ?_
                rotate_left
                · intro wz hSz
                  skip
                  go_simp
                  (try with_reducible rfl)
                try simp only [Act.put, List.setIfInBounds_toArray, List.set_cons_zero, List.set_cons_succ]
                refine anyL_ready (rs := [8]) (by kernel_rfl) (by simp) ?_
                refine AllL.cons (o := moC8) rfl (fun K' hK => ?_) AllL.nil
                rw [if_pos (by rfl)]
                unfold moC8
                have r0 := M4_bA.cell 0
                simp only [List.getElem?_toArray, List.getElem?_cons_zero] at r0
                have t0 := M4_bA.fr 0
                go_simp
                obtain ⟨V5, hV5⟩ : ∃ V, V = V4.setCell ⟨bA, 0, none⟩ (.slice (some ⟨rA, 0, none⟩) 1 1) := ⟨_, rfl⟩
                have M5_bA : MBlk V5 bA #[.slice (some ⟨rA, 0, none⟩) 1 1] 33 := by rw [hV5]; exact mblk_one M4_bA _
                have M5_bB := (show MBlk V5 bB _ _ by rw [hV5]; exact mblk_far M4_bB (by first | exact NbBbA | exact fun e => NbAbB e.symm) _)
                have M5_rA := (show MBlk V5 rA _ _ by rw [hV5]; exact mblk_far M4_rA (by first | exact NrAbA | exact fun e => NbArA e.symm) _)
                have M5_rB := (show MBlk V5 rB _ _ by rw [hV5]; exact mblk_far M4_rB (by first | exact NrBbA | exact fun e => NbArB e.symm) _)
                have D5 : Below Wd.heap.size Wd V5 := by rw [hV5]; exact D4.setCell (p := ⟨bA, 0, none⟩) GbA _
                have SD5 := HSB.out _ _ D5 SD0
                simp only [← hV5]
                refine hK _ _ SD5 ?_
                clear hK K' hV5 r0 t0 D4 SD4 M4_bB M4_rA M4_bA M4_rB
                try simp only [Act.put, List.setIfInBounds_toArray, List.set_cons_zero, List.set_cons_succ]
                refine anyL_ready (rs := [9]) (by kernel_rfl) (by simp) ?_
                refine AllL.cons (o := moC9) rfl (fun K' hK => ?_) AllL.nil
                rw [if_pos (by rfl)]
                unfold moC9
                have r0 := M5_bB.cell 0
                simp only [List.getElem?_toArray, List.getElem?_cons_zero] at r0
                have t0 := M5_bB.fr 0
                go_simp
                obtain ⟨V6, hV6⟩ : ∃ V, V = V5.setCell ⟨bB, 0, none⟩ (.slice (some ⟨rB, 0, none⟩) 1 1) := ⟨_, rfl⟩
                have M6_bB : MBlk V6 bB #[.slice (some ⟨rB, 0, none⟩) 1 1] 33 := by rw [hV6]; exact mblk_one M5_bB _
                have M6_rA := (show MBlk V6 rA _ _ by rw [hV6]; exact mblk_far M5_rA (by first | exact NrAbB | exact fun e => NbBrA e.symm) _)
                have M6_bA := (show MBlk V6 bA _ _ by rw [hV6]; exact mblk_far M5_bA (by first | exact NbAbB | exact fun e => NbBbA e.symm) _)
                have M6_rB := (show MBlk V6 rB _ _ by rw [hV6]; exact mblk_far M5_rB (by first | exact NrBbB | exact fun e => NbBrB e.symm) _)
                have D6 : Below Wd.heap.size Wd V6 := by rw [hV6]; exact D5.setCell (p := ⟨bB, 0, none⟩) GbB _
                have SD6 := HSB.out _ _ D6 SD0
                simp only [← hV6]
                refine hK _ _ SD6 ?_
                clear hK K' hV6 r0 t0 D5 SD5 M5_bB M5_rA M5_bA M5_rB
                try simp only [Act.put, List.setIfInBounds_toArray, List.set_cons_zero, List.set_cons_succ]
                refine anyL_done (by kernel_rfl) ?_ _
                go_wp2
                go_meet
                exact ⟨bA, bB, rA, rB, rfl, rfl, M6_bA, M6_bB, M6_rA, M6_rB, SD6, HB.out.trans (D6.mono HB.out.size)⟩
              · rw [if_pos (by rfl)]
                unfold moC8
                have r0 := M3_bA.cell 0
                simp only [List.getElem?_toArray, List.getElem?_cons_zero] at r0
                have t0 := M3_bA.fr 0
                go_simp
                obtain ⟨V4, hV4⟩ : ∃ V, V = V3.setCell ⟨bA, 0, none⟩ (.slice (some ⟨rA, 0, none⟩) 1 1) := ⟨_, rfl⟩
                have M4_bA : MBlk V4 bA #[.slice (some ⟨rA, 0, none⟩) 1 1] 33 := by rw [hV4]; exact mblk_one M3_bA _
                have M4_bB := (show MBlk V4 bB _ _ by rw [hV4]; exact mblk_far M3_bB (by first | exact NbBbA | exact fun e => NbAbB e.symm) _)
                have M4_rA := (show MBlk V4 rA _ _ by rw [hV4]; exact mblk_far M3_rA (by first | exact NrAbA | exact fun e => NbArA e.symm) _)
                have D4 : Below Wd.heap.size Wd V4 := by rw [hV4]; exact D3.setCell (p := ⟨bA, 0, none⟩) GbA _
                have SD4 := HSB.out _ _ D4 SD0
                simp only [← hV4]
                refine hK _ _ SD4 ?_
                clear hK K' hV4 r0 t0 D3 SD3 M3_bB M3_rA M3_bA
                try simp only [Act.put, List.setIfInBounds_toArray, List.set_cons_zero, List.set_cons_succ]
                refine anyL_ready (rs := [4]) (by kernel_rfl) (by simp) ?_
                refine AllL.cons (o := moC4) rfl (fun K' hK => ?_) AllL.nil
                rw [if_pos (by rfl)]
                unfold moC4
                go_simp
                obtain ⟨V5, hV5⟩ : ∃ V, V = V4.alloc (.cells #[.slice p2 g.path.length c2, .string g.id, .string g.title, .string g.link, .int .i64 g.upd, .slice q2 g.ents.length d2] 25) := ⟨_, rfl⟩
                obtain ⟨rB, hrB⟩ : ∃ n, n = V4.heap.size := ⟨_, rfl⟩
                have bb : Below V4.heap.size V4 V5 := by rw [hV5]; exact (Below.refl _ _).alloc (Nat.le_refl _) _
                have M5_rB : MBlk V5 rB #[.slice p2 g.path.length c2, .string g.id, .string g.title, .string g.link, .int .i64 g.upd, .slice q2 g.ents.length d2] 25 := by rw [hV5, hrB]; exact mblk_new _ _ _
                have M5_bB := M4_bB.more bb
                have NbBrB : bB ≠ rB := by have := M4_bB.lt; omega
                have M5_rA := M4_rA.more bb
                have NrArB : rA ≠ rB := by have := M4_rA.lt; omega
                have M5_bA := M4_bA.more bb
                have NbArB : bA ≠ rB := by have := M4_bA.lt; omega
                have D5 : Below Wd.heap.size Wd V5 := D4.trans (bb.mono D4.size)
                have GrB : Wd.heap.size ≤ rB := by rw [hrB]; exact D4.size
                have SD5 := HSB.out _ _ D5 SD0
                simp only [← hV5, ← hrB]
                refine hK _ _ SD5 ?_
                clear hK K' hV5 hrB bb D4 SD4 M4_bB M4_rA M4_bA
                try simp only [Act.put, List.setIfInBounds_toArray, List.set_cons_zero, List.set_cons_succ]
                refine anyL_take (i := 5) (oi := { dst := some 46, op := Go.Op.build 33 #[(0, Go.Operand.tmp 45)], type := 33, pos := "law.go:70", after := #[{ on := 4, ground := Go.Ground.data }, { on := 8, ground := Go.Ground.gcOnly Go.Departure.lateStores }], guard := none }) (v := ?_) rfl (by decide) (by kernel_rfl) (by kernel_rfl) (by kernel_rfl) (by kernel_rfl) (fun _ _ _ h => h) (Or.inl ⟨by rfl, ?_⟩) SD5 ?_
                rotate_left
                · intro wz hSz
                  skip
                  go_simp
                  (try with_reducible rfl)
                try simp only [Act.put, List.setIfInBounds_toArray, List.set_cons_zero, List.set_cons_succ]
                refine anyL_ready (rs := [9]) (by kernel_rfl) (by simp) ?_
                refine AllL.cons (o := moC9) rfl (fun K' hK => ?_) AllL.nil
                rw [if_pos (by rfl)]
                unfold moC9
                have r0 := M5_bB.cell 0
                simp only [List.getElem?_toArray, List.getElem?_cons_zero] at r0
                have t0 := M5_bB.fr 0
                go_simp
                obtain ⟨V6, hV6⟩ : ∃ V, V = V5.setCell ⟨bB, 0, none⟩ (.slice (some ⟨rB, 0, none⟩) 1 1) := ⟨_, rfl⟩
                have M6_bB : MBlk V6 bB #[.slice (some ⟨rB, 0, none⟩) 1 1] 33 := by rw [hV6]; exact mblk_one M5_bB _
                have M6_rA := (show MBlk V6 rA _ _ by rw [hV6]; exact mblk_far M5_rA (by first | exact NrAbB | exact fun e => NbBrA e.symm) _)
                have M6_bA := (show MBlk V6 bA _ _ by rw [hV6]; exact mblk_far M5_bA (by first | exact NbAbB | exact fun e => NbBbA e.symm) _)
                have M6_rB := (show MBlk V6 rB _ _ by rw [hV6]; exact mblk_far M5_rB (by first | exact NrBbB | exact fun e => NbBrB e.symm) _)
                have D6 : Below Wd.heap.size Wd V6 := by rw [hV6]; exact D5.setCell (p := ⟨bB, 0, none⟩) GbB _
                have SD6 := HSB.out _ _ D6 SD0
                simp only [← hV6]
                refine hK _ _ SD6 ?_
                clear hK K' hV6 r0 t0 D5 SD5 M5_bB M5_rA M5_bA M5_rB
                try simp only [Act.put, List.setIfInBounds_toArray, List.set_cons_zero, List.set_cons_succ]
                refine anyL_done (by kernel_rfl) ?_ _
                go_wp2
                go_meet
                exact ⟨bA, bB, rA, rB, rfl, rfl, M6_bA, M6_bB, M6_rA, M6_rB, SD6, HB.out.trans (D6.mono HB.out.size)⟩
          · rw [if_pos (by rfl)]
            unfold moC4
            go_simp
            obtain ⟨V2, hV2⟩ : ∃ V, V = V1.alloc (.cells #[.slice p2 g.path.length c2, .string g.id, .string g.title, .string g.link, .int .i64 g.upd, .slice q2 g.ents.length d2] 25) := ⟨_, rfl⟩
            obtain ⟨rB, hrB⟩ : ∃ n, n = V1.heap.size := ⟨_, rfl⟩
            have bb : Below V1.heap.size V1 V2 := by rw [hV2]; exact (Below.refl _ _).alloc (Nat.le_refl _) _
            have M2_rB : MBlk V2 rB #[.slice p2 g.path.length c2, .string g.id, .string g.title, .string g.link, .int .i64 g.upd, .slice q2 g.ents.length d2] 25 := by rw [hV2, hrB]; exact mblk_new _ _ _
            have M2_bB := M1_bB.more bb
            have NbBrB : bB ≠ rB := by have := M1_bB.lt; omega
            have D2 : Below Wd.heap.size Wd V2 := D1.trans (bb.mono D1.size)
            have GrB : Wd.heap.size ≤ rB := by rw [hrB]; exact D1.size
            have SD2 := HSB.out _ _ D2 SD0
            simp only [← hV2, ← hrB]
            refine hK _ _ SD2 ?_
            clear hK K' hV2 hrB bb D1 SD1 M1_bB
            try simp only [Act.put, List.setIfInBounds_toArray, List.set_cons_zero, List.set_cons_succ]
            refine anyL_take (i := 5) (oi := { dst := some 46, op := Go.Op.build 33 #[(0, Go.Operand.tmp 45)], type := 33, pos := "law.go:70", after := #[{ on := 4, ground := Go.Ground.data }, { on := 8, ground := Go.Ground.gcOnly Go.Departure.lateStores }], guard := none }) (v := ?_) rfl (by decide) (by kernel_rfl) (by kernel_rfl) (by kernel_rfl) (by kernel_rfl) (fun _ _ _ h => h) (Or.inl ⟨by rfl, ?_⟩) SD2 ?_
            rotate_left
            · intro wz hSz
              skip
              go_simp
              (try with_reducible rfl)
            try simp only [Act.put, List.setIfInBounds_toArray, List.set_cons_zero, List.set_cons_succ]
            refine anyL_ready (rs := [1, 6]) (by kernel_rfl) (by simp) ?_
            refine AllL.cons (o := moC1) rfl (fun K' hK => ?_) (AllL.cons (o := moC6) rfl (fun K' hK => ?_) AllL.nil)
            · rw [if_pos (by rfl)]
              unfold moC1
              go_simp
              obtain ⟨V3, hV3⟩ : ∃ V, V = V2.alloc (.cells #[.slice p1 f.path.length c1, .string f.id, .string f.title, .string f.link, .int .i64 f.upd, .slice q1 f.ents.length d1] 25) := ⟨_, rfl⟩
              obtain ⟨rA, hrA⟩ : ∃ n, n = V2.heap.size := ⟨_, rfl⟩
              have bb : Below V2.heap.size V2 V3 := by rw [hV3]; exact (Below.refl _ _).alloc (Nat.le_refl _) _
              have M3_rA : MBlk V3 rA #[.slice p1 f.path.length c1, .string f.id, .string f.title, .string f.link, .int .i64 f.upd, .slice q1 f.ents.length d1] 25 := by rw [hV3, hrA]; exact mblk_new _ _ _
              have M3_bB := M2_bB.more bb
              have NbBrA : bB ≠ rA := by have := M2_bB.lt; omega
              have M3_rB := M2_rB.more bb
              have NrBrA : rB ≠ rA := by have := M2_rB.lt; omega
              have D3 : Below Wd.heap.size Wd V3 := D2.trans (bb.mono D2.size)
              have GrA : Wd.heap.size ≤ rA := by rw [hrA]; exact D2.size
              have SD3 := HSB.out _ _ D3 SD0
              simp only [← hV3, ← hrA]
              refine hK _ _ SD3 ?_
              clear hK K' hV3 hrA bb D2 SD2 M2_bB M2_rB
              try simp only [Act.put, List.setIfInBounds_toArray, List.set_cons_zero, List.set_cons_succ]
              refine anyL_take (i := 2) (oi := { dst := some 43, op := Go.Op.build 33 #[(0, Go.Operand.tmp 42)], type := 33, pos := "law.go:70", after := #[{ on := 1, ground := Go.Ground.data }], guard := none }) (v := ?_) rfl (by decide) (by kernel_rfl) (by kernel_rfl) (by kernel_rfl) (by kernel_rfl) (fun _ _ _ h => h) (Or.inl ⟨by rfl, ?_⟩) SD3 ?_
              rotate_left
              · intro wz hSz
                skip
                go_simp
                (try with_reducible rfl)
              try simp only [Act.put, List.setIfInBounds_toArray, List.set_cons_zero, List.set_cons_succ]
              refine anyL_ready (rs := [6]) (by kernel_rfl) (by simp) ?_
              refine AllL.cons (o := moC6) rfl (fun K' hK => ?_) AllL.nil
              rw [if_pos (by rfl)]
              unfold moC6
              go_simp
              obtain ⟨V4, hV4⟩ : ∃ V, V = V3.alloc (.cells #[.slice none 0 0] 33) := ⟨_, rfl⟩
              obtain ⟨bA, hbA⟩ : ∃ n, n = V3.heap.size := ⟨_, rfl⟩
              have bb : Below V3.heap.size V3 V4 := by rw [hV4]; exact (Below.refl _ _).alloc (Nat.le_refl _) _
              have M4_bA : MBlk V4 bA #[.slice none 0 0] 33 := by rw [hV4, hbA]; exact mblk_new _ _ _
              have M4_bB := M3_bB.more bb
              have NbBbA : bB ≠ bA := by have := M3_bB.lt; omega
              have M4_rB := M3_rB.more bb
              have NrBbA : rB ≠ bA := by have := M3_rB.lt; omega
              have M4_rA := M3_rA.more bb
              have NrAbA : rA ≠ bA := by have := M3_rA.lt; omega
              have D4 : Below Wd.heap.size Wd V4 := D3.trans (bb.mono D3.size)
              have GbA : Wd.heap.size ≤ bA := by rw [hbA]; exact D3.size
              have SD4 := HSB.out _ _ D4 SD0
              simp only [← hV4, ← hbA]
              refine hK _ _ SD4 ?_
              clear hK K' hV4 hbA bb D3 SD3 M3_bB M3_rB M3_rA
              try simp only [Act.put, List.setIfInBounds_toArray, List.set_cons_zero, List.set_cons_succ]
              refine anyL_ready (rs := [8]) (by kernel_rfl) (by simp) ?_
              refine AllL.cons (o := moC8) rfl (fun K' hK => ?_) AllL.nil
              rw [if_pos (by rfl)]
              unfold moC8
              have r0 := M4_bA.cell 0
              simp only [List.getElem?_toArray, List.getElem?_cons_zero] at r0
              have t0 := M4_bA.fr 0
              go_simp
              obtain ⟨V5, hV5⟩ : ∃ V, V = V4.setCell ⟨bA, 0, none⟩ (.slice (some ⟨rA, 0, none⟩) 1 1) := ⟨_, rfl⟩
              have M5_bA : MBlk V5 bA #[.slice (some ⟨rA, 0, none⟩) 1 1] 33 := by rw [hV5]; exact mblk_one M4_bA _
              have M5_bB := (show MBlk V5 bB _ _ by rw [hV5]; exact mblk_far M4_bB (by first | exact NbBbA | exact fun e => NbAbB e.symm) _)
              have M5_rB := (show MBlk V5 rB _ _ by rw [hV5]; exact mblk_far M4_rB (by first | exact NrBbA | exact fun e => NbArB e.symm) _)
              have M5_rA := (show MBlk V5 rA _ _ by rw [hV5]; exact mblk_far M4_rA (by first | exact NrAbA | exact fun e => NbArA e.symm) _)
              have D5 : Below Wd.heap.size Wd V5 := by rw [hV5]; exact D4.setCell (p := ⟨bA, 0, none⟩) GbA _
              have SD5 := HSB.out _ _ D5 SD0
              simp only [← hV5]
              refine hK _ _ SD5 ?_
              clear hK K' hV5 r0 t0 D4 SD4 M4_bB M4_rB M4_rA M4_bA
              try simp only [Act.put, List.setIfInBounds_toArray, List.set_cons_zero, List.set_cons_succ]
              refine anyL_ready (rs := [9]) (by kernel_rfl) (by simp) ?_
              refine AllL.cons (o := moC9) rfl (fun K' hK => ?_) AllL.nil
              rw [if_pos (by rfl)]
              unfold moC9
              have r0 := M5_bB.cell 0
              simp only [List.getElem?_toArray, List.getElem?_cons_zero] at r0
              have t0 := M5_bB.fr 0
              go_simp
              obtain ⟨V6, hV6⟩ : ∃ V, V = V5.setCell ⟨bB, 0, none⟩ (.slice (some ⟨rB, 0, none⟩) 1 1) := ⟨_, rfl⟩
              have M6_bB : MBlk V6 bB #[.slice (some ⟨rB, 0, none⟩) 1 1] 33 := by rw [hV6]; exact mblk_one M5_bB _
              have M6_rB := (show MBlk V6 rB _ _ by rw [hV6]; exact mblk_far M5_rB (by first | exact NrBbB | exact fun e => NbBrB e.symm) _)
              have M6_rA := (show MBlk V6 rA _ _ by rw [hV6]; exact mblk_far M5_rA (by first | exact NrAbB | exact fun e => NbBrA e.symm) _)
              have M6_bA := (show MBlk V6 bA _ _ by rw [hV6]; exact mblk_far M5_bA (by first | exact NbAbB | exact fun e => NbBbA e.symm) _)
              have D6 : Below Wd.heap.size Wd V6 := by rw [hV6]; exact D5.setCell (p := ⟨bB, 0, none⟩) GbB _
              have SD6 := HSB.out _ _ D6 SD0
              simp only [← hV6]
              refine hK _ _ SD6 ?_
              clear hK K' hV6 r0 t0 D5 SD5 M5_bB M5_rB M5_rA M5_bA
              try simp only [Act.put, List.setIfInBounds_toArray, List.set_cons_zero, List.set_cons_succ]
              refine anyL_done (by kernel_rfl) ?_ _
              go_wp2
              go_meet
              exact ⟨bA, bB, rA, rB, rfl, rfl, M6_bA, M6_bB, M6_rA, M6_rB, SD6, HB.out.trans (D6.mono HB.out.size)⟩
            · rw [if_pos (by rfl)]
              unfold moC6
              go_simp
              obtain ⟨V3, hV3⟩ : ∃ V, V = V2.alloc (.cells #[.slice none 0 0] 33) := ⟨_, rfl⟩
              obtain ⟨bA, hbA⟩ : ∃ n, n = V2.heap.size := ⟨_, rfl⟩
              have bb : Below V2.heap.size V2 V3 := by rw [hV3]; exact (Below.refl _ _).alloc (Nat.le_refl _) _
              have M3_bA : MBlk V3 bA #[.slice none 0 0] 33 := by rw [hV3, hbA]; exact mblk_new _ _ _
              have M3_bB := M2_bB.more bb
              have NbBbA : bB ≠ bA := by have := M2_bB.lt; omega
              have M3_rB := M2_rB.more bb
              have NrBbA : rB ≠ bA := by have := M2_rB.lt; omega
              have D3 : Below Wd.heap.size Wd V3 := D2.trans (bb.mono D2.size)
              have GbA : Wd.heap.size ≤ bA := by rw [hbA]; exact D2.size
              have SD3 := HSB.out _ _ D3 SD0
              simp only [← hV3, ← hbA]
              refine hK _ _ SD3 ?_
              clear hK K' hV3 hbA bb D2 SD2 M2_bB M2_rB
              try simp only [Act.put, List.setIfInBounds_toArray, List.set_cons_zero, List.set_cons_succ]
              refine anyL_ready (rs := [1]) (by kernel_rfl) (by simp) ?_
              refine AllL.cons (o := moC1) rfl (fun K' hK => ?_) AllL.nil
              rw [if_pos (by rfl)]
              unfold moC1
              go_simp
              obtain ⟨V4, hV4⟩ : ∃ V, V = V3.alloc (.cells #[.slice p1 f.path.length c1, .string f.id, .string f.title, .string f.link, .int .i64 f.upd, .slice q1 f.ents.length d1] 25) := ⟨_, rfl⟩
              obtain ⟨rA, hrA⟩ : ∃ n, n = V3.heap.size := ⟨_, rfl⟩
              have bb : Below V3.heap.size V3 V4 := by rw [hV4]; exact (Below.refl _ _).alloc (Nat.le_refl _) _
              have M4_rA : MBlk V4 rA #[.slice p1 f.path.length c1, .string f.id, .string f.title, .string f.link, .int .i64 f.upd, .slice q1 f.ents.length d1] 25 := by rw [hV4, hrA]; exact mblk_new _ _ _
              have M4_bB := M3_bB.more bb
              have NbBrA : bB ≠ rA := by have := M3_bB.lt; omega
              have M4_rB := M3_rB.more bb
              have NrBrA : rB ≠ rA := by have := M3_rB.lt; omega
              have M4_bA := M3_bA.more bb
              have NbArA : bA ≠ rA := by have := M3_bA.lt; omega
              have D4 : Below Wd.heap.size Wd V4 := D3.trans (bb.mono D3.size)
              have GrA : Wd.heap.size ≤ rA := by rw [hrA]; exact D3.size
              have SD4 := HSB.out _ _ D4 SD0
              simp only [← hV4, ← hrA]
              refine hK _ _ SD4 ?_
              clear hK K' hV4 hrA bb D3 SD3 M3_bB M3_rB M3_bA
              try simp only [Act.put, List.setIfInBounds_toArray, List.set_cons_zero, List.set_cons_succ]
              refine anyL_take (i := 2) (oi := { dst := some 43, op := Go.Op.build 33 #[(0, Go.Operand.tmp 42)], type := 33, pos := "law.go:70", after := #[{ on := 1, ground := Go.Ground.data }], guard := none }) (v := ?_) rfl (by decide) (by kernel_rfl) (by kernel_rfl) (by kernel_rfl) (by kernel_rfl) (fun _ _ _ h => h) (Or.inl ⟨by rfl, ?_⟩) SD4 ?_
              rotate_left
              · intro wz hSz
                skip
                go_simp
                (try with_reducible rfl)
              try simp only [Act.put, List.setIfInBounds_toArray, List.set_cons_zero, List.set_cons_succ]
              refine anyL_ready (rs := [8]) (by kernel_rfl) (by simp) ?_
              refine AllL.cons (o := moC8) rfl (fun K' hK => ?_) AllL.nil
              rw [if_pos (by rfl)]
              unfold moC8
              have r0 := M4_bA.cell 0
              simp only [List.getElem?_toArray, List.getElem?_cons_zero] at r0
              have t0 := M4_bA.fr 0
              go_simp
              obtain ⟨V5, hV5⟩ : ∃ V, V = V4.setCell ⟨bA, 0, none⟩ (.slice (some ⟨rA, 0, none⟩) 1 1) := ⟨_, rfl⟩
              have M5_bA : MBlk V5 bA #[.slice (some ⟨rA, 0, none⟩) 1 1] 33 := by rw [hV5]; exact mblk_one M4_bA _
              have M5_bB := (show MBlk V5 bB _ _ by rw [hV5]; exact mblk_far M4_bB (by first | exact NbBbA | exact fun e => NbAbB e.symm) _)
              have M5_rB := (show MBlk V5 rB _ _ by rw [hV5]; exact mblk_far M4_rB (by first | exact NrBbA | exact fun e => NbArB e.symm) _)
              have M5_rA := (show MBlk V5 rA _ _ by rw [hV5]; exact mblk_far M4_rA (by first | exact NrAbA | exact fun e => NbArA e.symm) _)
              have D5 : Below Wd.heap.size Wd V5 := by rw [hV5]; exact D4.setCell (p := ⟨bA, 0, none⟩) GbA _
              have SD5 := HSB.out _ _ D5 SD0
              simp only [← hV5]
              refine hK _ _ SD5 ?_
              clear hK K' hV5 r0 t0 D4 SD4 M4_bB M4_rB M4_bA M4_rA
              try simp only [Act.put, List.setIfInBounds_toArray, List.set_cons_zero, List.set_cons_succ]
              refine anyL_ready (rs := [9]) (by kernel_rfl) (by simp) ?_
              refine AllL.cons (o := moC9) rfl (fun K' hK => ?_) AllL.nil
              rw [if_pos (by rfl)]
              unfold moC9
              have r0 := M5_bB.cell 0
              simp only [List.getElem?_toArray, List.getElem?_cons_zero] at r0
              have t0 := M5_bB.fr 0
              go_simp
              obtain ⟨V6, hV6⟩ : ∃ V, V = V5.setCell ⟨bB, 0, none⟩ (.slice (some ⟨rB, 0, none⟩) 1 1) := ⟨_, rfl⟩
              have M6_bB : MBlk V6 bB #[.slice (some ⟨rB, 0, none⟩) 1 1] 33 := by rw [hV6]; exact mblk_one M5_bB _
              have M6_rB := (show MBlk V6 rB _ _ by rw [hV6]; exact mblk_far M5_rB (by first | exact NrBbB | exact fun e => NbBrB e.symm) _)
              have M6_bA := (show MBlk V6 bA _ _ by rw [hV6]; exact mblk_far M5_bA (by first | exact NbAbB | exact fun e => NbBbA e.symm) _)
              have M6_rA := (show MBlk V6 rA _ _ by rw [hV6]; exact mblk_far M5_rA (by first | exact NrAbB | exact fun e => NbBrA e.symm) _)
              have D6 : Below Wd.heap.size Wd V6 := by rw [hV6]; exact D5.setCell (p := ⟨bB, 0, none⟩) GbB _
              have SD6 := HSB.out _ _ D6 SD0
              simp only [← hV6]
              refine hK _ _ SD6 ?_
              clear hK K' hV6 r0 t0 D5 SD5 M5_bB M5_rB M5_bA M5_rA
              try simp only [Act.put, List.setIfInBounds_toArray, List.set_cons_zero, List.set_cons_succ]
              refine anyL_done (by kernel_rfl) ?_ _
              go_wp2
              go_meet
              exact ⟨bA, bB, rA, rB, rfl, rfl, M6_bA, M6_bB, M6_rA, M6_rB, SD6, HB.out.trans (D6.mono HB.out.size)⟩
          · rw [if_pos (by rfl)]
            unfold moC6
            go_simp
            obtain ⟨V2, hV2⟩ : ∃ V, V = V1.alloc (.cells #[.slice none 0 0] 33) := ⟨_, rfl⟩
            obtain ⟨bA, hbA⟩ : ∃ n, n = V1.heap.size := ⟨_, rfl⟩
            have bb : Below V1.heap.size V1 V2 := by rw [hV2]; exact (Below.refl _ _).alloc (Nat.le_refl _) _
            have M2_bA : MBlk V2 bA #[.slice none 0 0] 33 := by rw [hV2, hbA]; exact mblk_new _ _ _
            have M2_bB := M1_bB.more bb
            have NbBbA : bB ≠ bA := by have := M1_bB.lt; omega
            have D2 : Below Wd.heap.size Wd V2 := D1.trans (bb.mono D1.size)
            have GbA : Wd.heap.size ≤ bA := by rw [hbA]; exact D1.size
            have SD2 := HSB.out _ _ D2 SD0
            simp only [← hV2, ← hbA]
            refine hK _ _ SD2 ?_
            clear hK K' hV2 hbA bb D1 SD1 M1_bB
            try simp only [Act.put, List.setIfInBounds_toArray, List.set_cons_zero, List.set_cons_succ]
            refine anyL_ready (rs := [1, 4]) (by kernel_rfl) (by simp) ?_
            refine AllL.cons (o := moC1) rfl (fun K' hK => ?_) (AllL.cons (o := moC4) rfl (fun K' hK => ?_) AllL.nil)
            · rw [if_pos (by rfl)]
              unfold moC1
              go_simp
              obtain ⟨V3, hV3⟩ : ∃ V, V = V2.alloc (.cells #[.slice p1 f.path.length c1, .string f.id, .string f.title, .string f.link, .int .i64 f.upd, .slice q1 f.ents.length d1] 25) := ⟨_, rfl⟩
              obtain ⟨rA, hrA⟩ : ∃ n, n = V2.heap.size := ⟨_, rfl⟩
              have bb : Below V2.heap.size V2 V3 := by rw [hV3]; exact (Below.refl _ _).alloc (Nat.le_refl _) _
              have M3_rA : MBlk V3 rA #[.slice p1 f.path.length c1, .string f.id, .string f.title, .string f.link, .int .i64 f.upd, .slice q1 f.ents.length d1] 25 := by rw [hV3, hrA]; exact mblk_new _ _ _
              have M3_bB := M2_bB.more bb
              have NbBrA : bB ≠ rA := by have := M2_bB.lt; omega
              have M3_bA := M2_bA.more bb
              have NbArA : bA ≠ rA := by have := M2_bA.lt; omega
              have D3 : Below Wd.heap.size Wd V3 := D2.trans (bb.mono D2.size)
              have GrA : Wd.heap.size ≤ rA := by rw [hrA]; exact D2.size
              have SD3 := HSB.out _ _ D3 SD0
              simp only [← hV3, ← hrA]
              refine hK _ _ SD3 ?_
              clear hK K' hV3 hrA bb D2 SD2 M2_bB M2_bA
              try simp only [Act.put, List.setIfInBounds_toArray, List.set_cons_zero, List.set_cons_succ]
              refine anyL_take (i := 2) (oi := { dst := some 43, op := Go.Op.build 33 #[(0, Go.Operand.tmp 42)], type := 33, pos := "law.go:70", after := #[{ on := 1, ground := Go.Ground.data }], guard := none }) (v := ?_) rfl (by decide) (by kernel_rfl) (by kernel_rfl) (by kernel_rfl) (by kernel_rfl) (fun _ _ _ h => h) (Or.inl ⟨by rfl, ?_⟩) SD3 ?_
              rotate_left
              · intro wz hSz
                skip
                go_simp
                (try with_reducible rfl)
              try simp only [Act.put, List.setIfInBounds_toArray, List.set_cons_zero, List.set_cons_succ]
              refine anyL_ready (rs := [4, 8]) (by kernel_rfl) (by simp) ?_
              refine AllL.cons (o := moC4) rfl (fun K' hK => ?_) (AllL.cons (o := moC8) rfl (fun K' hK => ?_) AllL.nil)
              · rw [if_pos (by rfl)]
                unfold moC4
                go_simp
                obtain ⟨V4, hV4⟩ : ∃ V, V = V3.alloc (.cells #[.slice p2 g.path.length c2, .string g.id, .string g.title, .string g.link, .int .i64 g.upd, .slice q2 g.ents.length d2] 25) := ⟨_, rfl⟩
                obtain ⟨rB, hrB⟩ : ∃ n, n = V3.heap.size := ⟨_, rfl⟩
                have bb : Below V3.heap.size V3 V4 := by rw [hV4]; exact (Below.refl _ _).alloc (Nat.le_refl _) _
                have M4_rB : MBlk V4 rB #[.slice p2 g.path.length c2, .string g.id, .string g.title, .string g.link, .int .i64 g.upd, .slice q2 g.ents.length d2] 25 := by rw [hV4, hrB]; exact mblk_new _ _ _
                have M4_bB := M3_bB.more bb
                have NbBrB : bB ≠ rB := by have := M3_bB.lt; omega
                have M4_bA := M3_bA.more bb
                have NbArB : bA ≠ rB := by have := M3_bA.lt; omega
                have M4_rA := M3_rA.more bb
                have NrArB : rA ≠ rB := by have := M3_rA.lt; omega
                have D4 : Below Wd.heap.size Wd V4 := D3.trans (bb.mono D3.size)
                have GrB : Wd.heap.size ≤ rB := by rw [hrB]; exact D3.size
                have SD4 := HSB.out _ _ D4 SD0
                simp only [← hV4, ← hrB]
                refine hK _ _ SD4 ?_
                clear hK K' hV4 hrB bb D3 SD3 M3_bB M3_bA M3_rA
                try simp only [Act.put, List.setIfInBounds_toArray, List.set_cons_zero, List.set_cons_succ]
                refine anyL_take (i := 5) (oi := { dst := some 46, op := Go.Op.build 33 #[(0, Go.Operand.tmp 45)], type := 33, pos := "law.go:70", after := #[{ on := 4, ground := Go.Ground.data }, { on := 8, ground := Go.Ground.gcOnly Go.Departure.lateStores }], guard := none }) (v := ?_) rfl (by decide) (by kernel_rfl) (by kernel_rfl) (by kernel_rfl) (by kernel_rfl) (fun _ _ _ h => h) (Or.inl ⟨by rfl, ?_⟩) SD4 ?_
                rotate_left
                · intro wz hSz
                  skip
                  go_simp
                  (try with_reducible rfl)
                try simp only [Act.put, List.setIfInBounds_toArray, List.set_cons_zero, List.set_cons_succ]
                refine anyL_ready (rs := [8]) (by kernel_rfl) (by simp) ?_
                refine AllL.cons (o := moC8) rfl (fun K' hK => ?_) AllL.nil
                rw [if_pos (by rfl)]
                unfold moC8
                have r0 := M4_bA.cell 0
                simp only [List.getElem?_toArray, List.getElem?_cons_zero] at r0
                have t0 := M4_bA.fr 0
                go_simp
                obtain ⟨V5, hV5⟩ : ∃ V, V = V4.setCell ⟨bA, 0, none⟩ (.slice (some ⟨rA, 0, none⟩) 1 1) := ⟨_, rfl⟩
                have M5_bA : MBlk V5 bA #[.slice (some ⟨rA, 0, none⟩) 1 1] 33 := by rw [hV5]; exact mblk_one M4_bA _
                have M5_bB := (show MBlk V5 bB _ _ by rw [hV5]; exact mblk_far M4_bB (by first | exact NbBbA | exact fun e => NbAbB e.symm) _)
                have M5_rA := (show MBlk V5 rA _ _ by rw [hV5]; exact mblk_far M4_rA (by first | exact NrAbA | exact fun e => NbArA e.symm) _)
                have M5_rB := (show MBlk V5 rB _ _ by rw [hV5]; exact mblk_far M4_rB (by first | exact NrBbA | exact fun e => NbArB e.symm) _)
                have D5 : Below Wd.heap.size Wd V5 := by rw [hV5]; exact D4.setCell (p := ⟨bA, 0, none⟩) GbA _
                have SD5 := HSB.out _ _ D5 SD0
                simp only [← hV5]
                refine hK _ _ SD5 ?_
                clear hK K' hV5 r0 t0 D4 SD4 M4_bB M4_bA M4_rA M4_rB
                try simp only [Act.put, List.setIfInBounds_toArray, List.set_cons_zero, List.set_cons_succ]
                refine anyL_ready (rs := [9]) (by kernel_rfl) (by simp) ?_
                refine AllL.cons (o := moC9) rfl (fun K' hK => ?_) AllL.nil
                rw [if_pos (by rfl)]
                unfold moC9
                have r0 := M5_bB.cell 0
                simp only [List.getElem?_toArray, List.getElem?_cons_zero] at r0
                have t0 := M5_bB.fr 0
                go_simp
                obtain ⟨V6, hV6⟩ : ∃ V, V = V5.setCell ⟨bB, 0, none⟩ (.slice (some ⟨rB, 0, none⟩) 1 1) := ⟨_, rfl⟩
                have M6_bB : MBlk V6 bB #[.slice (some ⟨rB, 0, none⟩) 1 1] 33 := by rw [hV6]; exact mblk_one M5_bB _
                have M6_bA := (show MBlk V6 bA _ _ by rw [hV6]; exact mblk_far M5_bA (by first | exact NbAbB | exact fun e => NbBbA e.symm) _)
                have M6_rA := (show MBlk V6 rA _ _ by rw [hV6]; exact mblk_far M5_rA (by first | exact NrAbB | exact fun e => NbBrA e.symm) _)
                have M6_rB := (show MBlk V6 rB _ _ by rw [hV6]; exact mblk_far M5_rB (by first | exact NrBbB | exact fun e => NbBrB e.symm) _)
                have D6 : Below Wd.heap.size Wd V6 := by rw [hV6]; exact D5.setCell (p := ⟨bB, 0, none⟩) GbB _
                have SD6 := HSB.out _ _ D6 SD0
                simp only [← hV6]
                refine hK _ _ SD6 ?_
                clear hK K' hV6 r0 t0 D5 SD5 M5_bB M5_bA M5_rA M5_rB
                try simp only [Act.put, List.setIfInBounds_toArray, List.set_cons_zero, List.set_cons_succ]
                refine anyL_done (by kernel_rfl) ?_ _
                go_wp2
                go_meet
                exact ⟨bA, bB, rA, rB, rfl, rfl, M6_bA, M6_bB, M6_rA, M6_rB, SD6, HB.out.trans (D6.mono HB.out.size)⟩
              · rw [if_pos (by rfl)]
                unfold moC8
                have r0 := M3_bA.cell 0
                simp only [List.getElem?_toArray, List.getElem?_cons_zero] at r0
                have t0 := M3_bA.fr 0
                go_simp
                obtain ⟨V4, hV4⟩ : ∃ V, V = V3.setCell ⟨bA, 0, none⟩ (.slice (some ⟨rA, 0, none⟩) 1 1) := ⟨_, rfl⟩
                have M4_bA : MBlk V4 bA #[.slice (some ⟨rA, 0, none⟩) 1 1] 33 := by rw [hV4]; exact mblk_one M3_bA _
                have M4_bB := (show MBlk V4 bB _ _ by rw [hV4]; exact mblk_far M3_bB (by first | exact NbBbA | exact fun e => NbAbB e.symm) _)
                have M4_rA := (show MBlk V4 rA _ _ by rw [hV4]; exact mblk_far M3_rA (by first | exact NrAbA | exact fun e => NbArA e.symm) _)
                have D4 : Below Wd.heap.size Wd V4 := by rw [hV4]; exact D3.setCell (p := ⟨bA, 0, none⟩) GbA _
                have SD4 := HSB.out _ _ D4 SD0
                simp only [← hV4]
                refine hK _ _ SD4 ?_
                clear hK K' hV4 r0 t0 D3 SD3 M3_bB M3_bA M3_rA
                try simp only [Act.put, List.setIfInBounds_toArray, List.set_cons_zero, List.set_cons_succ]
                refine anyL_ready (rs := [4]) (by kernel_rfl) (by simp) ?_
                refine AllL.cons (o := moC4) rfl (fun K' hK => ?_) AllL.nil
                rw [if_pos (by rfl)]
                unfold moC4
                go_simp
                obtain ⟨V5, hV5⟩ : ∃ V, V = V4.alloc (.cells #[.slice p2 g.path.length c2, .string g.id, .string g.title, .string g.link, .int .i64 g.upd, .slice q2 g.ents.length d2] 25) := ⟨_, rfl⟩
                obtain ⟨rB, hrB⟩ : ∃ n, n = V4.heap.size := ⟨_, rfl⟩
                have bb : Below V4.heap.size V4 V5 := by rw [hV5]; exact (Below.refl _ _).alloc (Nat.le_refl _) _
                have M5_rB : MBlk V5 rB #[.slice p2 g.path.length c2, .string g.id, .string g.title, .string g.link, .int .i64 g.upd, .slice q2 g.ents.length d2] 25 := by rw [hV5, hrB]; exact mblk_new _ _ _
                have M5_bB := M4_bB.more bb
                have NbBrB : bB ≠ rB := by have := M4_bB.lt; omega
                have M5_bA := M4_bA.more bb
                have NbArB : bA ≠ rB := by have := M4_bA.lt; omega
                have M5_rA := M4_rA.more bb
                have NrArB : rA ≠ rB := by have := M4_rA.lt; omega
                have D5 : Below Wd.heap.size Wd V5 := D4.trans (bb.mono D4.size)
                have GrB : Wd.heap.size ≤ rB := by rw [hrB]; exact D4.size
                have SD5 := HSB.out _ _ D5 SD0
                simp only [← hV5, ← hrB]
                refine hK _ _ SD5 ?_
                clear hK K' hV5 hrB bb D4 SD4 M4_bB M4_bA M4_rA
                try simp only [Act.put, List.setIfInBounds_toArray, List.set_cons_zero, List.set_cons_succ]
                refine anyL_take (i := 5) (oi := { dst := some 46, op := Go.Op.build 33 #[(0, Go.Operand.tmp 45)], type := 33, pos := "law.go:70", after := #[{ on := 4, ground := Go.Ground.data }, { on := 8, ground := Go.Ground.gcOnly Go.Departure.lateStores }], guard := none }) (v := ?_) rfl (by decide) (by kernel_rfl) (by kernel_rfl) (by kernel_rfl) (by kernel_rfl) (fun _ _ _ h => h) (Or.inl ⟨by rfl, ?_⟩) SD5 ?_
                rotate_left
                · intro wz hSz
                  skip
                  go_simp
                  (try with_reducible rfl)
                try simp only [Act.put, List.setIfInBounds_toArray, List.set_cons_zero, List.set_cons_succ]
                refine anyL_ready (rs := [9]) (by kernel_rfl) (by simp) ?_
                refine AllL.cons (o := moC9) rfl (fun K' hK => ?_) AllL.nil
                rw [if_pos (by rfl)]
                unfold moC9
                have r0 := M5_bB.cell 0
                simp only [List.getElem?_toArray, List.getElem?_cons_zero] at r0
                have t0 := M5_bB.fr 0
                go_simp
                obtain ⟨V6, hV6⟩ : ∃ V, V = V5.setCell ⟨bB, 0, none⟩ (.slice (some ⟨rB, 0, none⟩) 1 1) := ⟨_, rfl⟩
                have M6_bB : MBlk V6 bB #[.slice (some ⟨rB, 0, none⟩) 1 1] 33 := by rw [hV6]; exact mblk_one M5_bB _
                have M6_bA := (show MBlk V6 bA _ _ by rw [hV6]; exact mblk_far M5_bA (by first | exact NbAbB | exact fun e => NbBbA e.symm) _)
                have M6_rA := (show MBlk V6 rA _ _ by rw [hV6]; exact mblk_far M5_rA (by first | exact NrAbB | exact fun e => NbBrA e.symm) _)
                have M6_rB := (show MBlk V6 rB _ _ by rw [hV6]; exact mblk_far M5_rB (by first | exact NrBbB | exact fun e => NbBrB e.symm) _)
                have D6 : Below Wd.heap.size Wd V6 := by rw [hV6]; exact D5.setCell (p := ⟨bB, 0, none⟩) GbB _
                have SD6 := HSB.out _ _ D6 SD0
                simp only [← hV6]
                refine hK _ _ SD6 ?_
                clear hK K' hV6 r0 t0 D5 SD5 M5_bB M5_bA M5_rA M5_rB
                try simp only [Act.put, List.setIfInBounds_toArray, List.set_cons_zero, List.set_cons_succ]
                refine anyL_done (by kernel_rfl) ?_ _
                go_wp2
                go_meet
                exact ⟨bA, bB, rA, rB, rfl, rfl, M6_bA, M6_bB, M6_rA, M6_rB, SD6, HB.out.trans (D6.mono HB.out.size)⟩
            · rw [if_pos (by rfl)]
              unfold moC4
              go_simp
              obtain ⟨V3, hV3⟩ : ∃ V, V = V2.alloc (.cells #[.slice p2 g.path.length c2, .string g.id, .string g.title, .string g.link, .int .i64 g.upd, .slice q2 g.ents.length d2] 25) := ⟨_, rfl⟩
              obtain ⟨rB, hrB⟩ : ∃ n, n = V2.heap.size := ⟨_, rfl⟩
              have bb : Below V2.heap.size V2 V3 := by rw [hV3]; exact (Below.refl _ _).alloc (Nat.le_refl _) _
              have M3_rB : MBlk V3 rB #[.slice p2 g.path.length c2, .string g.id, .string g.title, .string g.link, .int .i64 g.upd, .slice q2 g.ents.length d2] 25 := by rw [hV3, hrB]; exact mblk_new _ _ _
              have M3_bB := M2_bB.more bb
              have NbBrB : bB ≠ rB := by have := M2_bB.lt; omega
              have M3_bA := M2_bA.more bb
              have NbArB : bA ≠ rB := by have := M2_bA.lt; omega
              have D3 : Below Wd.heap.size Wd V3 := D2.trans (bb.mono D2.size)
              have GrB : Wd.heap.size ≤ rB := by rw [hrB]; exact D2.size
              have SD3 := HSB.out _ _ D3 SD0
              simp only [← hV3, ← hrB]
              refine hK _ _ SD3 ?_
              clear hK K' hV3 hrB bb D2 SD2 M2_bB M2_bA
              try simp only [Act.put, List.setIfInBounds_toArray, List.set_cons_zero, List.set_cons_succ]
              refine anyL_take (i := 5) (oi := { dst := some 46, op := Go.Op.build 33 #[(0, Go.Operand.tmp 45)], type := 33, pos := "law.go:70", after := #[{ on := 4, ground := Go.Ground.data }, { on := 8, ground := Go.Ground.gcOnly Go.Departure.lateStores }], guard := none }) (v := ?_) rfl (by decide) (by kernel_rfl) (by kernel_rfl) (by kernel_rfl) (by kernel_rfl) (fun _ _ _ h => h) (Or.inl ⟨by rfl, ?_⟩) SD3 ?_
              rotate_left
              · intro wz hSz
                skip
                go_simp
                (try with_reducible rfl)
              try simp only [Act.put, List.setIfInBounds_toArray, List.set_cons_zero, List.set_cons_succ]
              refine anyL_ready (rs := [1]) (by kernel_rfl) (by simp) ?_
              refine AllL.cons (o := moC1) rfl (fun K' hK => ?_) AllL.nil
              rw [if_pos (by rfl)]
              unfold moC1
              go_simp
              obtain ⟨V4, hV4⟩ : ∃ V, V = V3.alloc (.cells #[.slice p1 f.path.length c1, .string f.id, .string f.title, .string f.link, .int .i64 f.upd, .slice q1 f.ents.length d1] 25) := ⟨_, rfl⟩
              obtain ⟨rA, hrA⟩ : ∃ n, n = V3.heap.size := ⟨_, rfl⟩
              have bb : Below V3.heap.size V3 V4 := by rw [hV4]; exact (Below.refl _ _).alloc (Nat.le_refl _) _
              have M4_rA : MBlk V4 rA #[.slice p1 f.path.length c1, .string f.id, .string f.title, .string f.link, .int .i64 f.upd, .slice q1 f.ents.length d1] 25 := by rw [hV4, hrA]; exact mblk_new _ _ _
              have M4_bB := M3_bB.more bb
              have NbBrA : bB ≠ rA := by have := M3_bB.lt; omega
              have M4_bA := M3_bA.more bb
              have NbArA : bA ≠ rA := by have := M3_bA.lt; omega
              have M4_rB := M3_rB.more bb
              have NrBrA : rB ≠ rA := by have := M3_rB.lt; omega
              have D4 : Below Wd.heap.size Wd V4 := D3.trans (bb.mono D3.size)
              have GrA : Wd.heap.size ≤ rA := by rw [hrA]; exact D3.size
              have SD4 := HSB.out _ _ D4 SD0
              simp only [← hV4, ← hrA]
              refine hK _ _ SD4 ?_
              clear hK K' hV4 hrA bb D3 SD3 M3_bB M3_bA M3_rB
              try simp only [Act.put, List.setIfInBounds_toArray, List.set_cons_zero, List.set_cons_succ]
              refine anyL_take (i := 2) (oi := { dst := some 43, op := Go.Op.build 33 #[(0, Go.Operand.tmp 42)], type := 33, pos := "law.go:70", after := #[{ on := 1, ground := Go.Ground.data }], guard := none }) (v := ?_) rfl (by decide) (by kernel_rfl) (by kernel_rfl) (by kernel_rfl) (by kernel_rfl) (fun _ _ _ h => h) (Or.inl ⟨by rfl, ?_⟩) SD4 ?_
              rotate_left
              · intro wz hSz
                skip
                go_simp
                (try with_reducible rfl)
              try simp only [Act.put, List.setIfInBounds_toArray, List.set_cons_zero, List.set_cons_succ]
              refine anyL_ready (rs := [8]) (by kernel_rfl) (by simp) ?_
              refine AllL.cons (o := moC8) rfl (fun K' hK => ?_) AllL.nil
              rw [if_pos (by rfl)]
              unfold moC8
              have r0 := M4_bA.cell 0
              simp only [List.getElem?_toArray, List.getElem?_cons_zero] at r0
              have t0 := M4_bA.fr 0
              go_simp
              obtain ⟨V5, hV5⟩ : ∃ V, V = V4.setCell ⟨bA, 0, none⟩ (.slice (some ⟨rA, 0, none⟩) 1 1) := ⟨_, rfl⟩
              have M5_bA : MBlk V5 bA #[.slice (some ⟨rA, 0, none⟩) 1 1] 33 := by rw [hV5]; exact mblk_one M4_bA _
              have M5_bB := (show MBlk V5 bB _ _ by rw [hV5]; exact mblk_far M4_bB (by first | exact NbBbA | exact fun e => NbAbB e.symm) _)
              have M5_rB := (show MBlk V5 rB _ _ by rw [hV5]; exact mblk_far M4_rB (by first | exact NrBbA | exact fun e => NbArB e.symm) _)
              have M5_rA := (show MBlk V5 rA _ _ by rw [hV5]; exact mblk_far M4_rA (by first | exact NrAbA | exact fun e => NbArA e.symm) _)
              have D5 : Below Wd.heap.size Wd V5 := by rw [hV5]; exact D4.setCell (p := ⟨bA, 0, none⟩) GbA _
              have SD5 := HSB.out _ _ D5 SD0
              simp only [← hV5]
              refine hK _ _ SD5 ?_
              clear hK K' hV5 r0 t0 D4 SD4 M4_bB M4_bA M4_rB M4_rA
              try simp only [Act.put, List.setIfInBounds_toArray, List.set_cons_zero, List.set_cons_succ]
              refine anyL_ready (rs := [9]) (by kernel_rfl) (by simp) ?_
              refine AllL.cons (o := moC9) rfl (fun K' hK => ?_) AllL.nil
              rw [if_pos (by rfl)]
              unfold moC9
              have r0 := M5_bB.cell 0
              simp only [List.getElem?_toArray, List.getElem?_cons_zero] at r0
              have t0 := M5_bB.fr 0
              go_simp
              obtain ⟨V6, hV6⟩ : ∃ V, V = V5.setCell ⟨bB, 0, none⟩ (.slice (some ⟨rB, 0, none⟩) 1 1) := ⟨_, rfl⟩
              have M6_bB : MBlk V6 bB #[.slice (some ⟨rB, 0, none⟩) 1 1] 33 := by rw [hV6]; exact mblk_one M5_bB _
              have M6_bA := (show MBlk V6 bA _ _ by rw [hV6]; exact mblk_far M5_bA (by first | exact NbAbB | exact fun e => NbBbA e.symm) _)
              have M6_rB := (show MBlk V6 rB _ _ by rw [hV6]; exact mblk_far M5_rB (by first | exact NrBbB | exact fun e => NbBrB e.symm) _)
              have M6_rA := (show MBlk V6 rA _ _ by rw [hV6]; exact mblk_far M5_rA (by first | exact NrAbB | exact fun e => NbBrA e.symm) _)
              have D6 : Below Wd.heap.size Wd V6 := by rw [hV6]; exact D5.setCell (p := ⟨bB, 0, none⟩) GbB _
              have SD6 := HSB.out _ _ D6 SD0
              simp only [← hV6]
              refine hK _ _ SD6 ?_
              clear hK K' hV6 r0 t0 D5 SD5 M5_bB M5_bA M5_rB M5_rA
              try simp only [Act.put, List.setIfInBounds_toArray, List.set_cons_zero, List.set_cons_succ]
              refine anyL_done (by kernel_rfl) ?_ _
              go_wp2
              go_meet
              exact ⟨bA, bB, rA, rB, rfl, rfl, M6_bA, M6_bB, M6_rA, M6_rB, SD6, HB.out.trans (D6.mono HB.out.size)⟩
      case rest =>
        obtain ⟨bA, bB, rA, rB, rfl, rfl, hMA, hMB, hNA, hNB, hSc, hBc⟩ := hcut
        have hFA := fun wx (hb : Below wc.heap.size wc wx) => (feed_blk hNA (hN1.out wc hBc) (hE1.out wc hBc)).below hb
        have hFB := fun wx (hb : Below wc.heap.size wc wx) => (feed_blk hNB (hN2.out wc hBc) (hE2.out wc hBc)).below hb
        have up := fun wx (hb : Below wc.heap.size wc wx) => hBc.trans (hb.mono hBc.size)
        have m0 := Lib.hid (fun wx hb => qcA.out wx (up wx hb))
        have m1 := Lib.hid (fun wx hb => qk1.out wx (up wx hb))
        have m2 := Lib.hid (fun wx hb => qk2.out wx (up wx hb))
        have m3 := Lib.hid (fun wx hb => qk3.out wx (up wx hb))
        have m4 := Lib.hid (fun wx hb => qk4.out wx (up wx hb))
        have m5 := Lib.hid (fun wx hb => qk5.out wx (up wx hb))
        have m6 := Lib.hid (fun wx hb => qk6.out rA rB wx (hFA wx hb) (hFB wx hb))
        have m7 := Lib.hid (fun wx hb => qk7.out rA wx (hFA wx hb))
        have m8 := Lib.hid (fun wx hb => qk8.out rA wx (hFA wx hb))
        have HBC := Lib.hid hBc
        have SD : (wc.drew.cell? ⟨bA, 0, none⟩ = some (.slice (some ⟨rA, 0, none⟩) 1 1)) ∧ (wc.drew.cell? ⟨bB, 0, none⟩ = some (.slice (some ⟨rB, 0, none⟩) 1 1)) ∧ FBox wc.drew w.heap.size f p1 c1 q1 d1 ∧ FBox wc.drew (w.heap.size + 1) g p2 c2 q2 d2 ∧ True := ⟨hMA.cell 0, hMB.cell 0, hSc⟩
        have HSI := Lib.hid (fun (u1 u2 : World) (hb : Below u1.heap.size u1 u2) (hss : (u1.cell? ⟨bA, 0, none⟩ = some (.slice (some ⟨rA, 0, none⟩) 1 1)) ∧ (u1.cell? ⟨bB, 0, none⟩ = some (.slice (some ⟨rB, 0, none⟩) 1 1)) ∧ FBox u1 w.heap.size f p1 c1 q1 d1 ∧ FBox u1 (w.heap.size + 1) g p2 c2 q2 d2 ∧ True) => (show (u2.cell? ⟨bA, 0, none⟩ = some (.slice (some ⟨rA, 0, none⟩) 1 1)) ∧ (u2.cell? ⟨bB, 0, none⟩ = some (.slice (some ⟨rB, 0, none⟩) 1 1)) ∧ FBox u2 w.heap.size f p1 c1 q1 d1 ∧ FBox u2 (w.heap.size + 1) g p2 c2 q2 d2 ∧ True from ⟨mcell hb hss.1, mcell hb hss.2.1, HSB.out u1 u2 hb hss.2.2⟩))
        have HD := Lib.hid ((Below.refl wc.heap.size wc).drew)
        have n1 : (P == P) = true := by simp
        have n2 : (X == X) = true := by simp
        have n3 : (B == B) = true := by simp
        clear hMA hMB hNA hNB hSc hBc hFA hFB up qcA qk1 qk2 qk3 qk4 qk5 qk6 qk7 qk8 hN1 hN2 hE1 hE2 HS3 HBo HSB f00 f01 f02 f03 f04 f05 f10 f11 f12 f13 f14 f15
        go_wp2
        refine wp_region_late (S := fun w' => (w'.cell? ⟨bA, 0, none⟩ = some (.slice (some ⟨rA, 0, none⟩) 1 1)) ∧ (w'.cell? ⟨bB, 0, none⟩ = some (.slice (some ⟨rB, 0, none⟩) 1 1)) ∧ FBox w' w.heap.size f p1 c1 q1 d1 ∧ FBox w' (w.heap.size + 1) g p2 c2 q2 d2 ∧ True) (D := []) (by kernel_rfl) ?_
        refine anyL_ready (rs := [0]) (by kernel_rfl) (by simp) ?_
        refine AllL.cons (o := { dst := some 47, op := Go.Op.call { callee := Go.Callee.value (Go.Operand.func 8), args := #[], argTypes := #[] }, type := 4, pos := "law.go:71", after := #[], guard := none }) rfl (fun K' hK => ?_) AllL.nil
        rw [if_pos (by rfl)]
        go_simp
        go_at_call 8
        refine (m0.out _ HD.out).mono ?_
        rintro e121 w121 ⟨rfl, b121⟩
        have S121 := HSI.out _ _ b121 SD
        have HB121 := Lib.hid (HD.out.trans (b121.mono HD.out.size))
        refine hK _ _ S121 ?_
        clear hK K' b121 SD
        try simp only [Act.put, List.setIfInBounds_toArray, List.set_cons_zero, List.set_cons_succ]
        refine anyL_take (i := 1) (oi := { dst := some 48, op := Go.Op.move (Go.Operand.tmp 47), type := 4, pos := "law.go:71", after := #[{ on := 0, ground := Go.Ground.data }, { on := 0, ground := Go.Ground.chain }], guard := none }) (v := ?_) rfl (by decide) (by kernel_rfl) (by kernel_rfl) (by kernel_rfl) (by kernel_rfl) (fun _ _ _ h => h) (Or.inl ⟨by rfl, ?_⟩) S121 ?_
        rotate_left
        · intro wz hSz
          skip
          go_simp
          (try with_reducible rfl)
        try simp only [Act.put, List.setIfInBounds_toArray, List.set_cons_zero, List.set_cons_succ]
        refine anyL_take (i := 2) (oi := { dst := some 49, op := Go.Op.fieldAddr 25 (Go.Operand.tmp 2) 0, type := 0, pos := "law.go:71", after := #[{ on := 1, ground := Go.Ground.guard }], guard := some (1, true) }) (v := ?_) rfl (by decide) (by kernel_rfl) (by kernel_rfl) (by kernel_rfl) (by kernel_rfl) (fun _ _ _ h => h) (Or.inl ⟨by rfl, ?_⟩) S121 ?_
        rotate_left
        · intro wz hSz
          skip
          go_simp
          (try with_reducible rfl)
        try simp only [Act.put, List.setIfInBounds_toArray, List.set_cons_zero, List.set_cons_succ]
        refine anyL_take (i := 3) (oi := { dst := some 50, op := Go.Op.load 22 (Go.Operand.tmp 49), type := 22, pos := "law.go:71", after := #[{ on := 2, ground := Go.Ground.data }, { on := 1, ground := Go.Ground.guard }], guard := some (1, true) }) (v := ?_) rfl (by decide) (by kernel_rfl) (by kernel_rfl) (by kernel_rfl) (by kernel_rfl) (fun _ _ _ h => h) (Or.inl ⟨by rfl, ?_⟩) S121 ?_
        rotate_left
        · intro wz hSz
          obtain ⟨y0, y1, ⟨z0, z1, z2, z3, z4, z5⟩, ⟨z6, z7, z8, z9, z10, z11⟩, -⟩ := hSz
          go_simp
          (try with_reducible rfl)
        try simp only [Act.put, List.setIfInBounds_toArray, List.set_cons_zero, List.set_cons_succ]
        refine anyL_take (i := 4) (oi := { dst := some 51, op := Go.Op.fieldAddr 25 (Go.Operand.tmp 3) 0, type := 0, pos := "law.go:71", after := #[{ on := 1, ground := Go.Ground.guard }], guard := some (1, true) }) (v := ?_) rfl (by decide) (by kernel_rfl) (by kernel_rfl) (by kernel_rfl) (by kernel_rfl) (fun _ _ _ h => h) (Or.inl ⟨by rfl, ?_⟩) S121 ?_
        rotate_left
        · intro wz hSz
          skip
          go_simp
          (try with_reducible rfl)
        try simp only [Act.put, List.setIfInBounds_toArray, List.set_cons_zero, List.set_cons_succ]
        refine anyL_take (i := 5) (oi := { dst := some 52, op := Go.Op.load 22 (Go.Operand.tmp 51), type := 22, pos := "law.go:71", after := #[{ on := 4, ground := Go.Ground.data }, { on := 1, ground := Go.Ground.guard }], guard := some (1, true) }) (v := ?_) rfl (by decide) (by kernel_rfl) (by kernel_rfl) (by kernel_rfl) (by kernel_rfl) (fun _ _ _ h => h) (Or.inl ⟨by rfl, ?_⟩) S121 ?_
        rotate_left
        · intro wz hSz
          obtain ⟨y0, y1, ⟨z0, z1, z2, z3, z4, z5⟩, ⟨z6, z7, z8, z9, z10, z11⟩, -⟩ := hSz
          go_simp
          (try with_reducible rfl)
        try simp only [Act.put, List.setIfInBounds_toArray, List.set_cons_zero, List.set_cons_succ]
        refine anyL_take (i := 7) (oi := { dst := some 54, op := Go.Op.fieldAddr 25 (Go.Operand.tmp 2) 0, type := 0, pos := "law.go:71", after := #[{ on := 1, ground := Go.Ground.guard }], guard := some (1, true) }) (v := ?_) rfl (by decide) (by kernel_rfl) (by kernel_rfl) (by kernel_rfl) (by kernel_rfl) (fun _ _ _ h => h) (Or.inl ⟨by rfl, ?_⟩) S121 ?_
        rotate_left
        · intro wz hSz
          skip
          go_simp
          (try with_reducible rfl)
        try simp only [Act.put, List.setIfInBounds_toArray, List.set_cons_zero, List.set_cons_succ]
        refine anyL_take (i := 8) (oi := { dst := some 55, op := Go.Op.load 22 (Go.Operand.tmp 54), type := 22, pos := "law.go:71", after := #[{ on := 7, ground := Go.Ground.data }, { on := 1, ground := Go.Ground.guard }], guard := some (1, true) }) (v := ?_) rfl (by decide) (by kernel_rfl) (by kernel_rfl) (by kernel_rfl) (by kernel_rfl) (fun _ _ _ h => h) (Or.inl ⟨by rfl, ?_⟩) S121 ?_
        rotate_left
        · intro wz hSz
          obtain ⟨y0, y1, ⟨z0, z1, z2, z3, z4, z5⟩, ⟨z6, z7, z8, z9, z10, z11⟩, -⟩ := hSz
          go_simp
          (try with_reducible rfl)
        try simp only [Act.put, List.setIfInBounds_toArray, List.set_cons_zero, List.set_cons_succ]
        refine anyL_take (i := 9) (oi := { dst := some 56, op := Go.Op.fieldAddr 25 (Go.Operand.tmp 3) 0, type := 0, pos := "law.go:71", after := #[{ on := 1, ground := Go.Ground.guard }], guard := some (1, true) }) (v := ?_) rfl (by decide) (by kernel_rfl) (by kernel_rfl) (by kernel_rfl) (by kernel_rfl) (fun _ _ _ h => h) (Or.inl ⟨by rfl, ?_⟩) S121 ?_
        rotate_left
        · intro wz hSz
          skip
          go_simp
          (try with_reducible rfl)
        try simp only [Act.put, List.setIfInBounds_toArray, List.set_cons_zero, List.set_cons_succ]
        refine anyL_take (i := 10) (oi := { dst := some 57, op := Go.Op.load 22 (Go.Operand.tmp 56), type := 22, pos := "law.go:71", after := #[{ on := 9, ground := Go.Ground.data }, { on := 1, ground := Go.Ground.guard }], guard := some (1, true) }) (v := ?_) rfl (by decide) (by kernel_rfl) (by kernel_rfl) (by kernel_rfl) (by kernel_rfl) (fun _ _ _ h => h) (Or.inl ⟨by rfl, ?_⟩) S121 ?_
        rotate_left
        · intro wz hSz
          obtain ⟨y0, y1, ⟨z0, z1, z2, z3, z4, z5⟩, ⟨z6, z7, z8, z9, z10, z11⟩, -⟩ := hSz
          go_simp
          (try with_reducible rfl)
        try simp only [Act.put, List.setIfInBounds_toArray, List.set_cons_zero, List.set_cons_succ]
        refine anyL_ready (rs := [6]) (by kernel_rfl) (by simp) ?_
        refine AllL.cons (o := { dst := some 53, op := Go.Op.call { callee := Go.Callee.value (Go.Operand.func 11), args := #[Go.Operand.tmp 50, Go.Operand.tmp 52], argTypes := #[22, 22] }, type := 3, pos := "law.go:71", after := #[{ on := 3, ground := Go.Ground.data }, { on := 5, ground := Go.Ground.data }, { on := 1, ground := Go.Ground.chain }, { on := 1, ground := Go.Ground.guard }], guard := some (1, true) }) rfl (fun K' hK => ?_) AllL.nil
        rw [if_pos (by rfl)]
        go_simp
        go_at_call 11
        refine (m1.out _ HB121.out).mono ?_
        rintro e122 w122 ⟨rfl, b122⟩
        have S122 := HSI.out _ _ b122 S121
        have HB122 := Lib.hid (HB121.out.trans (b122.mono HB121.out.size))
        refine hK _ _ S122 ?_
        clear hK K' b122 S121
        try simp only [Act.put, List.setIfInBounds_toArray, List.set_cons_zero, List.set_cons_succ]
        refine anyL_ready (rs := [11]) (by kernel_rfl) (by simp) ?_
        refine AllL.cons (o := { dst := some 58, op := Go.Op.call { callee := Go.Callee.value (Go.Operand.func 12), args := #[Go.Operand.tmp 55, Go.Operand.tmp 57], argTypes := #[22, 22] }, type := 3, pos := "law.go:71", after := #[{ on := 8, ground := Go.Ground.data }, { on := 10, ground := Go.Ground.data }, { on := 6, ground := Go.Ground.chain }, { on := 1, ground := Go.Ground.guard }], guard := some (1, true) }) rfl (fun K' hK => ?_) AllL.nil
        rw [if_pos (by rfl)]
        go_simp
        go_at_call 12
        refine (m2.out _ HB122.out).mono ?_
        rintro e123 w123 ⟨rfl, b123⟩
        have S123 := HSI.out _ _ b123 S122
        have HB123 := Lib.hid (HB122.out.trans (b123.mono HB122.out.size))
        refine hK _ _ S123 ?_
        clear hK K' b123 S122
        try simp only [Act.put, List.setIfInBounds_toArray, List.set_cons_zero, List.set_cons_succ]
        refine anyL_take (i := 12) (oi := { dst := some 59, op := Go.Op.binOp Go.BinOp.eql 3 (Go.Operand.tmp 53) (Go.Operand.tmp 58) 3, type := 4, pos := "law.go:71", after := #[{ on := 6, ground := Go.Ground.data }, { on := 11, ground := Go.Ground.data }, { on := 1, ground := Go.Ground.guard }], guard := some (1, true) }) (v := ?_) rfl (by decide) (by kernel_rfl) (by kernel_rfl) (by kernel_rfl) (by kernel_rfl) (fun _ _ _ h => h) (Or.inl ⟨by rfl, ?_⟩) S123 ?_
        rotate_left
        · intro wz hSz
          skip
          go_simp
          (try with_reducible rfl)
        try simp only [Act.put, List.setIfInBounds_toArray, List.set_cons_zero, List.set_cons_succ]
        refine anyL_take (i := 13) (oi := { dst := some 60, op := Go.Op.pick (Go.Operand.tmp 48) (Go.Operand.tmp 59) (Go.Operand.const (Go.Value.bool false)), type := 4, pos := "law.go:71", after := #[{ on := 1, ground := Go.Ground.data }, { on := 12, ground := Go.Ground.data }], guard := none }) (v := ?_) rfl (by decide) (by kernel_rfl) (by kernel_rfl) (by kernel_rfl) (by kernel_rfl) (fun _ _ _ h => h) (Or.inl ⟨by rfl, ?_⟩) S123 ?_
        rotate_left
        · intro wz hSz
          skip
          go_simp
          (try with_reducible rfl)
        try simp only [Act.put, List.setIfInBounds_toArray, List.set_cons_zero, List.set_cons_succ]
        refine anyL_take (i := 14) (oi := { dst := some 61, op := Go.Op.move (Go.Operand.tmp 60), type := 4, pos := "law.go:71", after := #[{ on := 13, ground := Go.Ground.data }, { on := 11, ground := Go.Ground.chain }], guard := none }) (v := ?_) rfl (by decide) (by kernel_rfl) (by kernel_rfl) (by kernel_rfl) (by kernel_rfl) (fun _ _ _ h => h) (Or.inl ⟨by rfl, ?_⟩) S123 ?_
        rotate_left
        · intro wz hSz
          skip
          go_simp
          (try with_reducible rfl)
        try simp only [Act.put, List.setIfInBounds_toArray, List.set_cons_zero, List.set_cons_succ]
        refine anyL_take (i := 15) (oi := { dst := some 62, op := Go.Op.load 25 (Go.Operand.tmp 2), type := 25, pos := "law.go:71", after := #[{ on := 14, ground := Go.Ground.guard }], guard := some (14, true) }) (v := ?_) rfl (by decide) (by kernel_rfl) (by kernel_rfl) (by kernel_rfl) (by kernel_rfl) (fun _ _ _ h => h) (Or.inl ⟨by rfl, ?_⟩) S123 ?_
        rotate_left
        · intro wz hSz
          obtain ⟨y0, y1, ⟨z0, z1, z2, z3, z4, z5⟩, ⟨z6, z7, z8, z9, z10, z11⟩, -⟩ := hSz
          go_simp
          (try with_reducible rfl)
        try simp only [Act.put, List.setIfInBounds_toArray, List.set_cons_zero, List.set_cons_succ]
        refine anyL_take (i := 16) (oi := { dst := some 63, op := Go.Op.load 25 (Go.Operand.tmp 3), type := 25, pos := "law.go:71", after := #[{ on := 14, ground := Go.Ground.guard }], guard := some (14, true) }) (v := ?_) rfl (by decide) (by kernel_rfl) (by kernel_rfl) (by kernel_rfl) (by kernel_rfl) (fun _ _ _ h => h) (Or.inl ⟨by rfl, ?_⟩) S123 ?_
        rotate_left
        · intro wz hSz
          obtain ⟨y0, y1, ⟨z0, z1, z2, z3, z4, z5⟩, ⟨z6, z7, z8, z9, z10, z11⟩, -⟩ := hSz
          go_simp
          (try with_reducible rfl)
        try simp only [Act.put, List.setIfInBounds_toArray, List.set_cons_zero, List.set_cons_succ]
        refine anyL_take (i := 18) (oi := { dst := some 65, op := Go.Op.load 25 (Go.Operand.tmp 2), type := 25, pos := "law.go:71", after := #[{ on := 14, ground := Go.Ground.guard }], guard := some (14, true) }) (v := ?_) rfl (by decide) (by kernel_rfl) (by kernel_rfl) (by kernel_rfl) (by kernel_rfl) (fun _ _ _ h => h) (Or.inl ⟨by rfl, ?_⟩) S123 ?_
        rotate_left
        · intro wz hSz
          obtain ⟨y0, y1, ⟨z0, z1, z2, z3, z4, z5⟩, ⟨z6, z7, z8, z9, z10, z11⟩, -⟩ := hSz
          go_simp
          (try with_reducible rfl)
        try simp only [Act.put, List.setIfInBounds_toArray, List.set_cons_zero, List.set_cons_succ]
        refine anyL_take (i := 19) (oi := { dst := some 66, op := Go.Op.load 25 (Go.Operand.tmp 3), type := 25, pos := "law.go:71", after := #[{ on := 14, ground := Go.Ground.guard }], guard := some (14, true) }) (v := ?_) rfl (by decide) (by kernel_rfl) (by kernel_rfl) (by kernel_rfl) (by kernel_rfl) (fun _ _ _ h => h) (Or.inl ⟨by rfl, ?_⟩) S123 ?_
        rotate_left
        · intro wz hSz
          obtain ⟨y0, y1, ⟨z0, z1, z2, z3, z4, z5⟩, ⟨z6, z7, z8, z9, z10, z11⟩, -⟩ := hSz
          go_simp
          (try with_reducible rfl)
        try simp only [Act.put, List.setIfInBounds_toArray, List.set_cons_zero, List.set_cons_succ]
        refine anyL_ready (rs := [17]) (by kernel_rfl) (by simp) ?_
        refine AllL.cons (o := { dst := some 64, op := Go.Op.call { callee := Go.Callee.value (Go.Operand.func 13), args := #[Go.Operand.tmp 62, Go.Operand.tmp 63], argTypes := #[25, 25] }, type := 3, pos := "law.go:71", after := #[{ on := 15, ground := Go.Ground.data }, { on := 16, ground := Go.Ground.data }, { on := 14, ground := Go.Ground.chain }, { on := 14, ground := Go.Ground.guard }], guard := some (14, true) }) rfl (fun K' hK => ?_) AllL.nil
        rw [if_pos (by rfl)]
        go_simp
        go_at_call 13
        refine (m3.out _ HB123.out).mono ?_
        rintro e124 w124 ⟨rfl, b124⟩
        have S124 := HSI.out _ _ b124 S123
        have HB124 := Lib.hid (HB123.out.trans (b124.mono HB123.out.size))
        refine hK _ _ S124 ?_
        clear hK K' b124 S123
        try simp only [Act.put, List.setIfInBounds_toArray, List.set_cons_zero, List.set_cons_succ]
        refine anyL_ready (rs := [20]) (by kernel_rfl) (by simp) ?_
        refine AllL.cons (o := { dst := some 67, op := Go.Op.call { callee := Go.Callee.value (Go.Operand.func 14), args := #[Go.Operand.tmp 65, Go.Operand.tmp 66], argTypes := #[25, 25] }, type := 3, pos := "law.go:71", after := #[{ on := 18, ground := Go.Ground.data }, { on := 19, ground := Go.Ground.data }, { on := 17, ground := Go.Ground.chain }, { on := 14, ground := Go.Ground.guard }], guard := some (14, true) }) rfl (fun K' hK => ?_) AllL.nil
        rw [if_pos (by rfl)]
        go_simp
        go_at_call 14
        refine (m4.out _ HB124.out).mono ?_
        rintro e125 w125 ⟨rfl, b125⟩
        have S125 := HSI.out _ _ b125 S124
        have HB125 := Lib.hid (HB124.out.trans (b125.mono HB124.out.size))
        refine hK _ _ S125 ?_
        clear hK K' b125 S124
        try simp only [Act.put, List.setIfInBounds_toArray, List.set_cons_zero, List.set_cons_succ]
        refine anyL_take (i := 21) (oi := { dst := some 68, op := Go.Op.binOp Go.BinOp.eql 3 (Go.Operand.tmp 64) (Go.Operand.tmp 67) 3, type := 4, pos := "law.go:71", after := #[{ on := 17, ground := Go.Ground.data }, { on := 20, ground := Go.Ground.data }, { on := 14, ground := Go.Ground.guard }], guard := some (14, true) }) (v := ?_) rfl (by decide) (by kernel_rfl) (by kernel_rfl) (by kernel_rfl) (by kernel_rfl) (fun _ _ _ h => h) (Or.inl ⟨by rfl, ?_⟩) S125 ?_
        rotate_left
        · intro wz hSz
          skip
          go_simp
          (try with_reducible rfl)
        try simp only [Act.put, List.setIfInBounds_toArray, List.set_cons_zero, List.set_cons_succ]
        refine anyL_take (i := 22) (oi := { dst := some 69, op := Go.Op.pick (Go.Operand.tmp 61) (Go.Operand.tmp 68) (Go.Operand.const (Go.Value.bool false)), type := 4, pos := "law.go:71", after := #[{ on := 14, ground := Go.Ground.data }, { on := 21, ground := Go.Ground.data }], guard := none }) (v := ?_) rfl (by decide) (by kernel_rfl) (by kernel_rfl) (by kernel_rfl) (by kernel_rfl) (fun _ _ _ h => h) (Or.inl ⟨by rfl, ?_⟩) S125 ?_
        rotate_left
        · intro wz hSz
          skip
          go_simp
          (try with_reducible rfl)
        try simp only [Act.put, List.setIfInBounds_toArray, List.set_cons_zero, List.set_cons_succ]
        refine anyL_take (i := 23) (oi := { dst := some 70, op := Go.Op.move (Go.Operand.tmp 69), type := 4, pos := "law.go:71", after := #[{ on := 22, ground := Go.Ground.data }, { on := 20, ground := Go.Ground.chain }], guard := none }) (v := ?_) rfl (by decide) (by kernel_rfl) (by kernel_rfl) (by kernel_rfl) (by kernel_rfl) (fun _ _ _ h => h) (Or.inl ⟨by rfl, ?_⟩) S125 ?_
        rotate_left
        · intro wz hSz
          skip
          go_simp
          (try with_reducible rfl)
        try simp only [Act.put, List.setIfInBounds_toArray, List.set_cons_zero, List.set_cons_succ]
        refine anyL_take (i := 24) (oi := { dst := some 71, op := Go.Op.load 33 (Go.Operand.tmp 9), type := 33, pos := "law.go:71", after := #[{ on := 23, ground := Go.Ground.guard }], guard := some (23, true) }) (v := ?_) rfl (by decide) (by kernel_rfl) (by kernel_rfl) (by kernel_rfl) (by kernel_rfl) (fun _ _ _ h => h) (Or.inl ⟨by rfl, ?_⟩) S125 ?_
        rotate_left
        · intro wz hSz
          obtain ⟨y0, y1, ⟨z0, z1, z2, z3, z4, z5⟩, ⟨z6, z7, z8, z9, z10, z11⟩, -⟩ := hSz
          go_simp
          (try with_reducible rfl)
        try simp only [Act.put, List.setIfInBounds_toArray, List.set_cons_zero, List.set_cons_succ]
        refine anyL_take (i := 25) (oi := { dst := some 72, op := Go.Op.load 33 (Go.Operand.tmp 10), type := 33, pos := "law.go:71", after := #[{ on := 23, ground := Go.Ground.guard }], guard := some (23, true) }) (v := ?_) rfl (by decide) (by kernel_rfl) (by kernel_rfl) (by kernel_rfl) (by kernel_rfl) (fun _ _ _ h => h) (Or.inl ⟨by rfl, ?_⟩) S125 ?_
        rotate_left
        · intro wz hSz
          obtain ⟨y0, y1, ⟨z0, z1, z2, z3, z4, z5⟩, ⟨z6, z7, z8, z9, z10, z11⟩, -⟩ := hSz
          go_simp
          (try with_reducible rfl)
        try simp only [Act.put, List.setIfInBounds_toArray, List.set_cons_zero, List.set_cons_succ]
        refine anyL_take (i := 27) (oi := { dst := some 74, op := Go.Op.load 25 (Go.Operand.tmp 2), type := 25, pos := "law.go:71", after := #[{ on := 23, ground := Go.Ground.guard }], guard := some (23, true) }) (v := ?_) rfl (by decide) (by kernel_rfl) (by kernel_rfl) (by kernel_rfl) (by kernel_rfl) (fun _ _ _ h => h) (Or.inl ⟨by rfl, ?_⟩) S125 ?_
        rotate_left
        · intro wz hSz
          obtain ⟨y0, y1, ⟨z0, z1, z2, z3, z4, z5⟩, ⟨z6, z7, z8, z9, z10, z11⟩, -⟩ := hSz
          go_simp
          (try with_reducible rfl)
        try simp only [Act.put, List.setIfInBounds_toArray, List.set_cons_zero, List.set_cons_succ]
        refine anyL_take (i := 28) (oi := { dst := some 75, op := Go.Op.load 25 (Go.Operand.tmp 3), type := 25, pos := "law.go:71", after := #[{ on := 23, ground := Go.Ground.guard }], guard := some (23, true) }) (v := ?_) rfl (by decide) (by kernel_rfl) (by kernel_rfl) (by kernel_rfl) (by kernel_rfl) (fun _ _ _ h => h) (Or.inl ⟨by rfl, ?_⟩) S125 ?_
        rotate_left
        · intro wz hSz
          obtain ⟨y0, y1, ⟨z0, z1, z2, z3, z4, z5⟩, ⟨z6, z7, z8, z9, z10, z11⟩, -⟩ := hSz
          go_simp
          (try with_reducible rfl)
        try simp only [Act.put, List.setIfInBounds_toArray, List.set_cons_zero, List.set_cons_succ]
        refine anyL_ready (rs := [26]) (by kernel_rfl) (by simp) ?_
        refine AllL.cons (o := { dst := some 73, op := Go.Op.call { callee := Go.Callee.value (Go.Operand.func 15), args := #[Go.Operand.tmp 71, Go.Operand.tmp 72], argTypes := #[33, 33] }, type := 4, pos := "law.go:71", after := #[{ on := 24, ground := Go.Ground.data }, { on := 25, ground := Go.Ground.data }, { on := 23, ground := Go.Ground.chain }, { on := 23, ground := Go.Ground.guard }], guard := some (23, true) }) rfl (fun K' hK => ?_) AllL.nil
        rw [if_pos (by rfl)]
        go_simp
        go_at_call 15
        refine (m6.out _ HB125.out).mono ?_
        rintro e126 w126 ⟨rfl, b126⟩
        have S126 := HSI.out _ _ b126 S125
        have HB126 := Lib.hid (HB125.out.trans (b126.mono HB125.out.size))
        refine hK _ _ S126 ?_
        clear hK K' b126 S125
        try simp only [Act.put, List.setIfInBounds_toArray, List.set_cons_zero, List.set_cons_succ]
        refine anyL_ready (rs := [29]) (by kernel_rfl) (by simp) ?_
        refine AllL.cons (o := { dst := some 76, op := Go.Op.call { callee := Go.Callee.value (Go.Operand.func 16), args := #[Go.Operand.tmp 74, Go.Operand.tmp 75], argTypes := #[25, 25] }, type := 4, pos := "law.go:71", after := #[{ on := 27, ground := Go.Ground.data }, { on := 28, ground := Go.Ground.data }, { on := 26, ground := Go.Ground.chain }, { on := 23, ground := Go.Ground.guard }], guard := some (23, true) }) rfl (fun K' hK => ?_) AllL.nil
        rw [if_pos (by rfl)]
        go_simp
        go_at_call 16
        refine (m5.out _ HB126.out).mono ?_
        rintro e127 w127 ⟨rfl, b127⟩
        have S127 := HSI.out _ _ b127 S126
        have HB127 := Lib.hid (HB126.out.trans (b127.mono HB126.out.size))
        refine hK _ _ S127 ?_
        clear hK K' b127 S126
        try simp only [Act.put, List.setIfInBounds_toArray, List.set_cons_zero, List.set_cons_succ]
        refine anyL_take (i := 30) (oi := { dst := some 77, op := Go.Op.binOp Go.BinOp.eql 4 (Go.Operand.tmp 73) (Go.Operand.tmp 76) 4, type := 4, pos := "law.go:71", after := #[{ on := 26, ground := Go.Ground.data }, { on := 29, ground := Go.Ground.data }, { on := 23, ground := Go.Ground.guard }], guard := some (23, true) }) (v := ?_) rfl (by decide) (by kernel_rfl) (by kernel_rfl) (by kernel_rfl) (by kernel_rfl) (fun _ _ _ h => h) (Or.inl ⟨by rfl, ?_⟩) S127 ?_
        rotate_left
        · intro wz hSz
          skip
          go_simp
          (try with_reducible rfl)
        try simp only [Act.put, List.setIfInBounds_toArray, List.set_cons_zero, List.set_cons_succ]
        refine anyL_take (i := 31) (oi := { dst := some 78, op := Go.Op.pick (Go.Operand.tmp 70) (Go.Operand.tmp 77) (Go.Operand.const (Go.Value.bool false)), type := 4, pos := "law.go:71", after := #[{ on := 23, ground := Go.Ground.data }, { on := 30, ground := Go.Ground.data }], guard := none }) (v := ?_) rfl (by decide) (by kernel_rfl) (by kernel_rfl) (by kernel_rfl) (by kernel_rfl) (fun _ _ _ h => h) (Or.inl ⟨by rfl, ?_⟩) S127 ?_
        rotate_left
        · intro wz hSz
          skip
          go_simp
          (try with_reducible rfl)
        try simp only [Act.put, List.setIfInBounds_toArray, List.set_cons_zero, List.set_cons_succ]
        refine anyL_take (i := 32) (oi := { dst := some 79, op := Go.Op.move (Go.Operand.tmp 78), type := 4, pos := "law.go:71", after := #[{ on := 31, ground := Go.Ground.data }, { on := 29, ground := Go.Ground.chain }], guard := none }) (v := ?_) rfl (by decide) (by kernel_rfl) (by kernel_rfl) (by kernel_rfl) (by kernel_rfl) (fun _ _ _ h => h) (Or.inl ⟨by rfl, ?_⟩) S127 ?_
        rotate_left
        · intro wz hSz
          skip
          go_simp
          (try with_reducible rfl)
        try simp only [Act.put, List.setIfInBounds_toArray, List.set_cons_zero, List.set_cons_succ]
        refine anyL_take (i := 33) (oi := { dst := some 80, op := Go.Op.load 33 (Go.Operand.tmp 9), type := 33, pos := "law.go:71", after := #[{ on := 32, ground := Go.Ground.guard }], guard := some (32, true) }) (v := ?_) rfl (by decide) (by kernel_rfl) (by kernel_rfl) (by kernel_rfl) (by kernel_rfl) (fun _ _ _ h => h) (Or.inl ⟨by rfl, ?_⟩) S127 ?_
        rotate_left
        · intro wz hSz
          obtain ⟨y0, y1, ⟨z0, z1, z2, z3, z4, z5⟩, ⟨z6, z7, z8, z9, z10, z11⟩, -⟩ := hSz
          go_simp
          (try with_reducible rfl)
        try simp only [Act.put, List.setIfInBounds_toArray, List.set_cons_zero, List.set_cons_succ]
        refine anyL_take (i := 34) (oi := { dst := some 81, op := Go.Op.load 33 (Go.Operand.tmp 9), type := 33, pos := "law.go:71", after := #[{ on := 32, ground := Go.Ground.guard }], guard := some (32, true) }) (v := ?_) rfl (by decide) (by kernel_rfl) (by kernel_rfl) (by kernel_rfl) (by kernel_rfl) (fun _ _ _ h => h) (Or.inl ⟨by rfl, ?_⟩) S127 ?_
        rotate_left
        · intro wz hSz
          obtain ⟨y0, y1, ⟨z0, z1, z2, z3, z4, z5⟩, ⟨z6, z7, z8, z9, z10, z11⟩, -⟩ := hSz
          go_simp
          (try with_reducible rfl)
        try simp only [Act.put, List.setIfInBounds_toArray, List.set_cons_zero, List.set_cons_succ]
        refine anyL_ready (rs := [35]) (by kernel_rfl) (by simp) ?_
        refine AllL.cons (o := { dst := some 82, op := Go.Op.call { callee := Go.Callee.value (Go.Operand.func 15), args := #[Go.Operand.tmp 80, Go.Operand.tmp 81], argTypes := #[33, 33] }, type := 4, pos := "law.go:71", after := #[{ on := 33, ground := Go.Ground.data }, { on := 34, ground := Go.Ground.data }, { on := 32, ground := Go.Ground.chain }, { on := 32, ground := Go.Ground.guard }], guard := some (32, true) }) rfl (fun K' hK => ?_) AllL.nil
        rw [if_pos (by rfl)]
        go_simp
        go_at_call 15
        refine (m7.out _ HB127.out).mono ?_
        rintro e128 w128 ⟨rfl, b128⟩
        have S128 := HSI.out _ _ b128 S127
        have HB128 := Lib.hid (HB127.out.trans (b128.mono HB127.out.size))
        refine hK _ _ S128 ?_
        clear hK K' b128 S127
        try simp only [Act.put, List.setIfInBounds_toArray, List.set_cons_zero, List.set_cons_succ]
        refine anyL_take (i := 36) (oi := { dst := some 83, op := Go.Op.pick (Go.Operand.tmp 79) (Go.Operand.tmp 82) (Go.Operand.const (Go.Value.bool false)), type := 4, pos := "law.go:71", after := #[{ on := 32, ground := Go.Ground.data }, { on := 35, ground := Go.Ground.data }], guard := none }) (v := ?_) rfl (by decide) (by kernel_rfl) (by kernel_rfl) (by kernel_rfl) (by kernel_rfl) (fun _ _ _ h => h) (Or.inl ⟨by rfl, ?_⟩) S128 ?_
        rotate_left
        · intro wz hSz
          skip
          go_simp
          (try with_reducible rfl)
        try simp only [Act.put, List.setIfInBounds_toArray, List.set_cons_zero, List.set_cons_succ]
        refine anyL_take (i := 37) (oi := { dst := some 84, op := Go.Op.move (Go.Operand.tmp 83), type := 4, pos := "law.go:71", after := #[{ on := 36, ground := Go.Ground.data }, { on := 35, ground := Go.Ground.chain }], guard := none }) (v := ?_) rfl (by decide) (by kernel_rfl) (by kernel_rfl) (by kernel_rfl) (by kernel_rfl) (fun _ _ _ h => h) (Or.inl ⟨by rfl, ?_⟩) S128 ?_
        rotate_left
        · intro wz hSz
          skip
          go_simp
          (try with_reducible rfl)
        try simp only [Act.put, List.setIfInBounds_toArray, List.set_cons_zero, List.set_cons_succ]
        refine anyL_take (i := 38) (oi := { dst := some 85, op := Go.Op.load 33 (Go.Operand.tmp 9), type := 33, pos := "law.go:71", after := #[{ on := 37, ground := Go.Ground.guard }], guard := some (37, true) }) (v := ?_) rfl (by decide) (by kernel_rfl) (by kernel_rfl) (by kernel_rfl) (by kernel_rfl) (fun _ _ _ h => h) (Or.inl ⟨by rfl, ?_⟩) S128 ?_
        rotate_left
        · intro wz hSz
          obtain ⟨y0, y1, ⟨z0, z1, z2, z3, z4, z5⟩, ⟨z6, z7, z8, z9, z10, z11⟩, -⟩ := hSz
          go_simp
          (try with_reducible rfl)
        try simp only [Act.put, List.setIfInBounds_toArray, List.set_cons_zero, List.set_cons_succ]
        refine anyL_take (i := 39) (oi := { dst := some 86, op := Go.Op.build 33 #[], type := 33, pos := "law.go:71", after := #[{ on := 37, ground := Go.Ground.guard }], guard := some (37, true) }) (v := ?_) rfl (by decide) (by kernel_rfl) (by kernel_rfl) (by kernel_rfl) (by kernel_rfl) (fun _ _ _ h => h) (Or.inl ⟨by rfl, ?_⟩) S128 ?_
        rotate_left
        · intro wz hSz
          skip
          go_simp
          (try with_reducible rfl)
        try simp only [Act.put, List.setIfInBounds_toArray, List.set_cons_zero, List.set_cons_succ]
        refine anyL_ready (rs := [40]) (by kernel_rfl) (by simp) ?_
        refine AllL.cons (o := { dst := some 87, op := Go.Op.call { callee := Go.Callee.value (Go.Operand.func 15), args := #[Go.Operand.tmp 85, Go.Operand.tmp 86], argTypes := #[33, 33] }, type := 4, pos := "law.go:71", after := #[{ on := 38, ground := Go.Ground.data }, { on := 39, ground := Go.Ground.data }, { on := 37, ground := Go.Ground.chain }, { on := 37, ground := Go.Ground.guard }], guard := some (37, true) }) rfl (fun K' hK => ?_) AllL.nil
        rw [if_pos (by rfl)]
        go_simp
        go_at_call 15
        refine (m8.out _ HB128.out).mono ?_
        rintro e129 w129 ⟨rfl, b129⟩
        have S129 := HSI.out _ _ b129 S128
        have HB129 := Lib.hid (HB128.out.trans (b129.mono HB128.out.size))
        refine hK _ _ S129 ?_
        clear hK K' b129 S128
        try simp only [Act.put, List.setIfInBounds_toArray, List.set_cons_zero, List.set_cons_succ]
        refine anyL_take (i := 41) (oi := { dst := some 88, op := Go.Op.unOp Go.UnOp.not 4 (Go.Operand.tmp 87), type := 4, pos := "law.go:71", after := #[{ on := 40, ground := Go.Ground.data }, { on := 37, ground := Go.Ground.guard }], guard := some (37, true) }) (v := ?_) rfl (by decide) (by kernel_rfl) (by kernel_rfl) (by kernel_rfl) (by kernel_rfl) (fun _ _ _ h => h) (Or.inl ⟨by rfl, ?_⟩) S129 ?_
        rotate_left
        · intro wz hSz
          skip
          go_simp
          (try with_reducible rfl)
        try simp only [Act.put, List.setIfInBounds_toArray, List.set_cons_zero, List.set_cons_succ]
        refine anyL_take (i := 42) (oi := { dst := some 89, op := Go.Op.pick (Go.Operand.tmp 84) (Go.Operand.tmp 88) (Go.Operand.const (Go.Value.bool false)), type := 4, pos := "law.go:71", after := #[{ on := 37, ground := Go.Ground.data }, { on := 41, ground := Go.Ground.data }], guard := none }) (v := ?_) rfl (by decide) (by kernel_rfl) (by kernel_rfl) (by kernel_rfl) (by kernel_rfl) (fun _ _ _ h => h) (Or.inl ⟨by rfl, ?_⟩) S129 ?_
        rotate_left
        · intro wz hSz
          skip
          go_simp
          (try with_reducible rfl)
        try simp only [Act.put, List.setIfInBounds_toArray, List.set_cons_zero, List.set_cons_succ]
        refine anyL_take (i := 43) (oi := { dst := some 4, op := Go.Op.assign (Go.Operand.tmp 89), type := 4, pos := "law.go:71", after := #[{ on := 42, ground := Go.Ground.data }, { on := 40, ground := Go.Ground.chain }, { on := 0, ground := Go.Ground.phase }, { on := 1, ground := Go.Ground.phase }, { on := 2, ground := Go.Ground.phase }, { on := 3, ground := Go.Ground.phase }, { on := 4, ground := Go.Ground.phase }, { on := 5, ground := Go.Ground.phase }, { on := 6, ground := Go.Ground.phase }, { on := 7, ground := Go.Ground.phase }, { on := 8, ground := Go.Ground.phase }, { on := 9, ground := Go.Ground.phase }, { on := 10, ground := Go.Ground.phase }, { on := 11, ground := Go.Ground.phase }, { on := 12, ground := Go.Ground.phase }, { on := 13, ground := Go.Ground.phase }, { on := 14, ground := Go.Ground.phase }, { on := 15, ground := Go.Ground.phase }, { on := 16, ground := Go.Ground.phase }, { on := 17, ground := Go.Ground.phase }, { on := 18, ground := Go.Ground.phase }, { on := 19, ground := Go.Ground.phase }, { on := 20, ground := Go.Ground.phase }, { on := 21, ground := Go.Ground.phase }, { on := 22, ground := Go.Ground.phase }, { on := 23, ground := Go.Ground.phase }, { on := 24, ground := Go.Ground.phase }, { on := 25, ground := Go.Ground.phase }, { on := 26, ground := Go.Ground.phase }, { on := 27, ground := Go.Ground.phase }, { on := 28, ground := Go.Ground.phase }, { on := 29, ground := Go.Ground.phase }, { on := 30, ground := Go.Ground.phase }, { on := 31, ground := Go.Ground.phase }, { on := 32, ground := Go.Ground.phase }, { on := 33, ground := Go.Ground.phase }, { on := 34, ground := Go.Ground.phase }, { on := 35, ground := Go.Ground.phase }, { on := 36, ground := Go.Ground.phase }, { on := 37, ground := Go.Ground.phase }, { on := 38, ground := Go.Ground.phase }, { on := 39, ground := Go.Ground.phase }, { on := 40, ground := Go.Ground.phase }, { on := 41, ground := Go.Ground.phase }, { on := 42, ground := Go.Ground.phase }], guard := none }) (v := ?_) rfl (by decide) (by kernel_rfl) (by kernel_rfl) (by kernel_rfl) (by kernel_rfl) (fun _ _ _ h => h) (Or.inl ⟨by rfl, ?_⟩) S129 ?_
        rotate_left
        · intro wz hSz
          skip
          go_simp
          (try with_reducible rfl)
        try simp only [Act.put, List.setIfInBounds_toArray, List.set_cons_zero, List.set_cons_succ]
        refine anyL_done (by kernel_rfl) ?_ _
        clear S129
        go_wp2
        go_ret
        exact ⟨by first | rfl | simp, HBC.out.trans (HB129.out.mono HBC.out.size)⟩
theorem walk_Compares (f g : FeedD) (v1 v2 : Value) (w : World) (hf : FeedIs w f v1) (hg : FeedIs w g v2) (hWf : FWf f) (hWg : FWf g) (hT : TabW w):
    Calls Tryd.prog 3 #[v1, v2] w fun e' w' => e' = .returned (.bool true) ∧ Below w.heap.size w w' := by
  rcases hl1 : tlF 0 [f] with _ | _
  · rcases hl2 : tlF 0 [g] with _ | _
    · exact walk_ComparesC f g v1 v2 w hf hg hWf hWg hT hl1 hl2
    · exact walk_ComparesB f g v1 v2 w hf hg hWf hWg hT hl1 hl2
  · exact walk_ComparesA f g v1 v2 w hf hg hWf hWg hT hl1
end Go.Proofs.YtggfblodjanfkaaDoor
end
