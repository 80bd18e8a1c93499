/- Packed from the texts MeL. -/
import Derived.Test.YtggfblodjanfkaaDoorVMeK
import Derived.Test.YtggfblodjanfkaaDoorVk9
import Derived.Test.YtggfblodjanfkaaDoorVl1
section
namespace Go.Proofs.YtggfblodjanfkaaDoor
open Go.RowKit
structure EWf (e : EntD) : Prop where
  id : e.id.size ≤ 140737488351232
  title : e.title.size ≤ 140737488351232
  link : e.link.size ≤ 140737488351232
  content : e.content.size ≤ 140737488351232
  u0 : -9223372036854775808 ≤ e.upd
  u1 : e.upd ≤ 9223372036854775807
theorem keys_same (e f : EntD) (he : EWf e) (hf : EWf f) (h : ekL e ≠ []) : ((ofBytes (ekL e)).toList == (ofBytes (ekL f)).toList) = eqE e f := by
  rw [ByteArray.toList_eq, ByteArray.toList_eq, ofBytes_list, ofBytes_list]
  rcases hq : eqE e f with _ | _
  · rw [beq_eq_false_iff_ne]
    intro hk
    have := (eqE_iff e f).2 (ek_inj e f he.u0 he.u1 hf.u0 hf.u1 h hk)
    rw [hq] at this
    cases this
  · rw [(eqE_iff e f).1 hq]
    exact beq_self_eq_true _
set_option maxRecDepth 100000 in
set_option maxHeartbeats 16000000 in
theorem walk_KeysA (e f : EntD) (g : FeedD) (v : Value) (w : World) (hg : FeedIs w g v) (hWe : EWf e) (hWf : EWf f) (hWg : FWf g) (hT : TabW w) (hx : 5000 < e.id.size + e.title.size + e.link.size + e.content.size) :
    Calls Tryd.prog 5 #[EntV e, EntV f, v] w fun e' w' => e' = .returned (.bool true) ∧ Below w.heap.size w w' := by
  obtain ⟨p1, c1, q1, d1, rfl, hp1, he1⟩ := hg
  have hg : FeedIs w g (.agg #[.slice p1 g.path.length c1, .string g.id, .string g.title, .string g.link, .int .i64 g.upd, .slice q1 g.ents.length d1]) := ⟨p1, c1, q1, d1, rfl, hp1, he1⟩
  obtain ⟨W0, hW0⟩ : ∃ W0, W0 = (((w.alloc (.cells #[.string e.id, .string e.title, .string e.link, .string e.content, .int .i64 e.upd] 29)).alloc (.cells #[.string f.id, .string f.title, .string f.link, .string f.content, .int .i64 f.upd] 29)).alloc (.cells #[.slice p1 g.path.length c1, .string g.id, .string g.title, .string g.link, .int .i64 g.upd, .slice q1 g.ents.length d1] 25)) := ⟨_, rfl⟩
  have hB0 : Below w.heap.size w W0 := by rw [hW0]; exact ((((Below.refl _ _).alloc (by simp) _).alloc (by simp; try omega) _).alloc (by simp; try omega) _)
  have hX0 : EBox W0 w.heap.size e := by
    have h := EBox.new w e
    rw [hW0]
    exact ((h).below ((Below.refl _ _).alloc (Nat.le_refl _) _)).below ((Below.refl _ _).alloc (Nat.le_refl _) _)
  have hX1 : EBox W0 (w.heap.size + 1) f := by
    have h := EBox.new (w.alloc (.cells #[.string e.id, .string e.title, .string e.link, .string e.content, .int .i64 e.upd] 29)) f
    rw [World.size_alloc] at h
    rw [hW0]
    exact (h).below ((Below.refl _ _).alloc (Nat.le_refl _) _)
  have hX2 : FBox W0 (w.heap.size + 2) g p1 c1 q1 d1 := by
    have h := FBox.new ((w.alloc (.cells #[.string e.id, .string e.title, .string e.link, .string e.content, .int .i64 e.upd] 29)).alloc (.cells #[.string f.id, .string f.title, .string f.link, .string f.content, .int .i64 f.upd] 29)) g p1 c1 q1 d1
    rw [World.size_alloc, World.size_alloc] at h
    rw [hW0]
    exact h
  have hS : EBox W0 w.heap.size e ∧ EBox W0 (w.heap.size + 1) f ∧ FBox W0 (w.heap.size + 2) g p1 c1 q1 d1 ∧ True := ⟨hX0, hX1, hX2, trivial⟩
  have HSB := Lib.hid (fun (u1 u2 : World) (hb : Below u1.heap.size u1 u2) (h : EBox u1 w.heap.size e ∧ EBox u1 (w.heap.size + 1) f ∧ FBox u1 (w.heap.size + 2) g p1 c1 q1 d1 ∧ True) => (show EBox u2 w.heap.size e ∧ EBox u2 (w.heap.size + 1) f ∧ FBox u2 (w.heap.size + 2) g p1 c1 q1 d1 ∧ True from ⟨h.1.below hb, h.2.1.below hb, h.2.2.1.below hb, trivial⟩))
  clear hX0 hX1 hX2
  have cA := fun wx (hb : Below w.heap.size w wx) => mc_alive wx (TabW_below hT hb)
  have qcA := Lib.hid cA
  have cL := fun wx (hb : Below w.heap.size w wx) => law_large g _ wx (hg.below hb) hWg
  have s1 := hWe.id
  have s2 := hWe.title
  have s3 := hWe.link
  have s4 := hWe.content
  have s5 := hWf.id
  have s6 := hWf.title
  have s7 := hWf.link
  have s8 := hWf.content
  have re2 : IntKind.i64.wrap ((e.id.size : Int) + (e.title.size : Int)) = (e.id.size : Int) + (e.title.size : Int) := mwrap (by omega) (by omega)
  have re3 : IntKind.i64.wrap ((e.id.size : Int) + (e.title.size : Int) + (e.link.size : Int)) = (e.id.size : Int) + (e.title.size : Int) + (e.link.size : Int) := mwrap (by omega) (by omega)
  have re4 : IntKind.i64.wrap ((e.id.size : Int) + (e.title.size : Int) + (e.link.size : Int) + (e.content.size : Int)) = (e.id.size : Int) + (e.title.size : Int) + (e.link.size : Int) + (e.content.size : Int) := mwrap (by omega) (by omega)
  have rf2 : IntKind.i64.wrap ((f.id.size : Int) + (f.title.size : Int)) = (f.id.size : Int) + (f.title.size : Int) := mwrap (by omega) (by omega)
  have rf3 : IntKind.i64.wrap ((f.id.size : Int) + (f.title.size : Int) + (f.link.size : Int)) = (f.id.size : Int) + (f.title.size : Int) + (f.link.size : Int) := mwrap (by omega) (by omega)
  have rf4 : IntKind.i64.wrap ((f.id.size : Int) + (f.title.size : Int) + (f.link.size : Int) + (f.content.size : Int)) = (f.id.size : Int) + (f.title.size : Int) + (f.link.size : Int) + (f.content.size : Int) := mwrap (by omega) (by omega)
  have HS := Lib.hid hS
  have HB := Lib.hid hB0
  unfold EntV
  have hxz : 5000 < (e.id.size : Int) + (e.title.size : Int) + (e.link.size : Int) + (e.content.size : Int) := by omega
  clear hx hS hB0 hT hg hWe hWf hWg hp1 he1 cA cL rf2 rf3 rf4
  go_enter Tryd.func5, Tryd.ntmps5
  go_upto_region 1 with fail
  simp only [← hW0]
  clear hW0
  obtain ⟨⟨f00, f01, f02, f03, f04⟩, ⟨f10, f11, f12, f13, f14⟩, ⟨f20, f21, f22, f23, f24, f25⟩, -⟩ := id HS.out
  go_wp2_with fail
  refine (qcA.out _ HB.out).mono ?_
  rintro e1 w1 ⟨rfl, b1⟩
  replace HS := Lib.hid (HSB.out _ _ b1 HS.out)
  replace HB := Lib.hid (HB.out.trans (b1.mono HB.out.size))
  clear b1
  clear f00 f01 f02 f03 f04 f10 f11 f12 f13 f14 f20 f21 f22 f23 f24 f25
  obtain ⟨⟨f00, f01, f02, f03, f04⟩, ⟨f10, f11, f12, f13, f14⟩, ⟨f20, f21, f22, f23, f24, f25⟩, -⟩ := id HS.out
  go_wp2
  go_ret
  exact ⟨rfl, HB.out⟩
set_option maxRecDepth 100000 in
set_option maxHeartbeats 16000000 in
theorem walk_KeysB (e f : EntD) (g : FeedD) (v : Value) (w : World) (hg : FeedIs w g v) (hWe : EWf e) (hWf : EWf f) (hWg : FWf g) (hT : TabW w) (hx : ¬ 5000 < e.id.size + e.title.size + e.link.size + e.content.size) (hy : 5000 < f.id.size + f.title.size + f.link.size + f.content.size) :
    Calls Tryd.prog 5 #[EntV e, EntV f, v] w fun e' w' => e' = .returned (.bool true) ∧ Below w.heap.size w w' := by
  obtain ⟨p1, c1, q1, d1, rfl, hp1, he1⟩ := hg
  have hg : FeedIs w g (.agg #[.slice p1 g.path.length c1, .string g.id, .string g.title, .string g.link, .int .i64 g.upd, .slice q1 g.ents.length d1]) := ⟨p1, c1, q1, d1, rfl, hp1, he1⟩
  obtain ⟨W0, hW0⟩ : ∃ W0, W0 = (((w.alloc (.cells #[.string e.id, .string e.title, .string e.link, .string e.content, .int .i64 e.upd] 29)).alloc (.cells #[.string f.id, .string f.title, .string f.link, .string f.content, .int .i64 f.upd] 29)).alloc (.cells #[.slice p1 g.path.length c1, .string g.id, .string g.title, .string g.link, .int .i64 g.upd, .slice q1 g.ents.length d1] 25)) := ⟨_, rfl⟩
  have hB0 : Below w.heap.size w W0 := by rw [hW0]; exact ((((Below.refl _ _).alloc (by simp) _).alloc (by simp; try omega) _).alloc (by simp; try omega) _)
  have hX0 : EBox W0 w.heap.size e := by
    have h := EBox.new w e
    rw [hW0]
    exact ((h).below ((Below.refl _ _).alloc (Nat.le_refl _) _)).below ((Below.refl _ _).alloc (Nat.le_refl _) _)
  have hX1 : EBox W0 (w.heap.size + 1) f := by
    have h := EBox.new (w.alloc (.cells #[.string e.id, .string e.title, .string e.link, .string e.content, .int .i64 e.upd] 29)) f
    rw [World.size_alloc] at h
    rw [hW0]
    exact (h).below ((Below.refl _ _).alloc (Nat.le_refl _) _)
  have hX2 : FBox W0 (w.heap.size + 2) g p1 c1 q1 d1 := by
    have h := FBox.new ((w.alloc (.cells #[.string e.id, .string e.title, .string e.link, .string e.content, .int .i64 e.upd] 29)).alloc (.cells #[.string f.id, .string f.title, .string f.link, .string f.content, .int .i64 f.upd] 29)) g p1 c1 q1 d1
    rw [World.size_alloc, World.size_alloc] at h
    rw [hW0]
    exact h
  have hS : EBox W0 w.heap.size e ∧ EBox W0 (w.heap.size + 1) f ∧ FBox W0 (w.heap.size + 2) g p1 c1 q1 d1 ∧ True := ⟨hX0, hX1, hX2, trivial⟩
  have HSB := Lib.hid (fun (u1 u2 : World) (hb : Below u1.heap.size u1 u2) (h : EBox u1 w.heap.size e ∧ EBox u1 (w.heap.size + 1) f ∧ FBox u1 (w.heap.size + 2) g p1 c1 q1 d1 ∧ True) => (show EBox u2 w.heap.size e ∧ EBox u2 (w.heap.size + 1) f ∧ FBox u2 (w.heap.size + 2) g p1 c1 q1 d1 ∧ True from ⟨h.1.below hb, h.2.1.below hb, h.2.2.1.below hb, trivial⟩))
  clear hX0 hX1 hX2
  have cA := fun wx (hb : Below w.heap.size w wx) => mc_alive wx (TabW_below hT hb)
  have qcA := Lib.hid cA
  have cL := fun wx (hb : Below w.heap.size w wx) => law_large g _ wx (hg.below hb) hWg
  have s1 := hWe.id
  have s2 := hWe.title
  have s3 := hWe.link
  have s4 := hWe.content
  have s5 := hWf.id
  have s6 := hWf.title
  have s7 := hWf.link
  have s8 := hWf.content
  have re2 : IntKind.i64.wrap ((e.id.size : Int) + (e.title.size : Int)) = (e.id.size : Int) + (e.title.size : Int) := mwrap (by omega) (by omega)
  have re3 : IntKind.i64.wrap ((e.id.size : Int) + (e.title.size : Int) + (e.link.size : Int)) = (e.id.size : Int) + (e.title.size : Int) + (e.link.size : Int) := mwrap (by omega) (by omega)
  have re4 : IntKind.i64.wrap ((e.id.size : Int) + (e.title.size : Int) + (e.link.size : Int) + (e.content.size : Int)) = (e.id.size : Int) + (e.title.size : Int) + (e.link.size : Int) + (e.content.size : Int) := mwrap (by omega) (by omega)
  have rf2 : IntKind.i64.wrap ((f.id.size : Int) + (f.title.size : Int)) = (f.id.size : Int) + (f.title.size : Int) := mwrap (by omega) (by omega)
  have rf3 : IntKind.i64.wrap ((f.id.size : Int) + (f.title.size : Int) + (f.link.size : Int)) = (f.id.size : Int) + (f.title.size : Int) + (f.link.size : Int) := mwrap (by omega) (by omega)
  have rf4 : IntKind.i64.wrap ((f.id.size : Int) + (f.title.size : Int) + (f.link.size : Int) + (f.content.size : Int)) = (f.id.size : Int) + (f.title.size : Int) + (f.link.size : Int) + (f.content.size : Int) := mwrap (by omega) (by omega)
  have HS := Lib.hid hS
  have HB := Lib.hid hB0
  unfold EntV
  have hxz : ¬ 5000 < (e.id.size : Int) + (e.title.size : Int) + (e.link.size : Int) + (e.content.size : Int) := by omega
  have hyz : 5000 < (f.id.size : Int) + (f.title.size : Int) + (f.link.size : Int) + (f.content.size : Int) := by omega
  clear hx hy hS hB0 hT hg hWe hWf hWg hp1 he1 cA cL
  go_enter Tryd.func5, Tryd.ntmps5
  go_upto_region 1 with fail
  simp only [← hW0]
  clear hW0
  obtain ⟨⟨f00, f01, f02, f03, f04⟩, ⟨f10, f11, f12, f13, f14⟩, ⟨f20, f21, f22, f23, f24, f25⟩, -⟩ := id HS.out
  go_wp2_with fail
  refine (qcA.out _ HB.out).mono ?_
  rintro e1 w1 ⟨rfl, b1⟩
  replace HS := Lib.hid (HSB.out _ _ b1 HS.out)
  replace HB := Lib.hid (HB.out.trans (b1.mono HB.out.size))
  clear b1
  clear f00 f01 f02 f03 f04 f10 f11 f12 f13 f14 f20 f21 f22 f23 f24 f25
  obtain ⟨⟨f00, f01, f02, f03, f04⟩, ⟨f10, f11, f12, f13, f14⟩, ⟨f20, f21, f22, f23, f24, f25⟩, -⟩ := id HS.out
  go_wp2
  go_ret
  exact ⟨rfl, HB.out⟩
set_option maxRecDepth 100000 in
set_option maxHeartbeats 16000000 in
theorem walk_KeysC (e f : EntD) (g : FeedD) (v : Value) (w : World) (hg : FeedIs w g v) (hWe : EWf e) (hWf : EWf f) (hWg : FWf g) (hT : TabW w) (hx : ¬ 5000 < e.id.size + e.title.size + e.link.size + e.content.size) (hy : ¬ 5000 < f.id.size + f.title.size + f.link.size + f.content.size) (hl : tlF 0 [g] = true) :
    Calls Tryd.prog 5 #[EntV e, EntV f, v] w fun e' w' => e' = .returned (.bool true) ∧ Below w.heap.size w w' := by
  obtain ⟨p1, c1, q1, d1, rfl, hp1, he1⟩ := hg
  have hg : FeedIs w g (.agg #[.slice p1 g.path.length c1, .string g.id, .string g.title, .string g.link, .int .i64 g.upd, .slice q1 g.ents.length d1]) := ⟨p1, c1, q1, d1, rfl, hp1, he1⟩
  obtain ⟨W0, hW0⟩ : ∃ W0, W0 = (((w.alloc (.cells #[.string e.id, .string e.title, .string e.link, .string e.content, .int .i64 e.upd] 29)).alloc (.cells #[.string f.id, .string f.title, .string f.link, .string f.content, .int .i64 f.upd] 29)).alloc (.cells #[.slice p1 g.path.length c1, .string g.id, .string g.title, .string g.link, .int .i64 g.upd, .slice q1 g.ents.length d1] 25)) := ⟨_, rfl⟩
  have hB0 : Below w.heap.size w W0 := by rw [hW0]; exact ((((Below.refl _ _).alloc (by simp) _).alloc (by simp; try omega) _).alloc (by simp; try omega) _)
  have hX0 : EBox W0 w.heap.size e := by
    have h := EBox.new w e
    rw [hW0]
    exact ((h).below ((Below.refl _ _).alloc (Nat.le_refl _) _)).below ((Below.refl _ _).alloc (Nat.le_refl _) _)
  have hX1 : EBox W0 (w.heap.size + 1) f := by
    have h := EBox.new (w.alloc (.cells #[.string e.id, .string e.title, .string e.link, .string e.content, .int .i64 e.upd] 29)) f
    rw [World.size_alloc] at h
    rw [hW0]
    exact (h).below ((Below.refl _ _).alloc (Nat.le_refl _) _)
  have hX2 : FBox W0 (w.heap.size + 2) g p1 c1 q1 d1 := by
    have h := FBox.new ((w.alloc (.cells #[.string e.id, .string e.title, .string e.link, .string e.content, .int .i64 e.upd] 29)).alloc (.cells #[.string f.id, .string f.title, .string f.link, .string f.content, .int .i64 f.upd] 29)) g p1 c1 q1 d1
    rw [World.size_alloc, World.size_alloc] at h
    rw [hW0]
    exact h
  have hS : EBox W0 w.heap.size e ∧ EBox W0 (w.heap.size + 1) f ∧ FBox W0 (w.heap.size + 2) g p1 c1 q1 d1 ∧ True := ⟨hX0, hX1, hX2, trivial⟩
  have HSB := Lib.hid (fun (u1 u2 : World) (hb : Below u1.heap.size u1 u2) (h : EBox u1 w.heap.size e ∧ EBox u1 (w.heap.size + 1) f ∧ FBox u1 (w.heap.size + 2) g p1 c1 q1 d1 ∧ True) => (show EBox u2 w.heap.size e ∧ EBox u2 (w.heap.size + 1) f ∧ FBox u2 (w.heap.size + 2) g p1 c1 q1 d1 ∧ True from ⟨h.1.below hb, h.2.1.below hb, h.2.2.1.below hb, trivial⟩))
  clear hX0 hX1 hX2
  have cA := fun wx (hb : Below w.heap.size w wx) => mc_alive wx (TabW_below hT hb)
  have qcA := Lib.hid cA
  have cL := fun wx (hb : Below w.heap.size w wx) => law_large g _ wx (hg.below hb) hWg
  have s1 := hWe.id
  have s2 := hWe.title
  have s3 := hWe.link
  have s4 := hWe.content
  have s5 := hWf.id
  have s6 := hWf.title
  have s7 := hWf.link
  have s8 := hWf.content
  have re2 : IntKind.i64.wrap ((e.id.size : Int) + (e.title.size : Int)) = (e.id.size : Int) + (e.title.size : Int) := mwrap (by omega) (by omega)
  have re3 : IntKind.i64.wrap ((e.id.size : Int) + (e.title.size : Int) + (e.link.size : Int)) = (e.id.size : Int) + (e.title.size : Int) + (e.link.size : Int) := mwrap (by omega) (by omega)
  have re4 : IntKind.i64.wrap ((e.id.size : Int) + (e.title.size : Int) + (e.link.size : Int) + (e.content.size : Int)) = (e.id.size : Int) + (e.title.size : Int) + (e.link.size : Int) + (e.content.size : Int) := mwrap (by omega) (by omega)
  have rf2 : IntKind.i64.wrap ((f.id.size : Int) + (f.title.size : Int)) = (f.id.size : Int) + (f.title.size : Int) := mwrap (by omega) (by omega)
  have rf3 : IntKind.i64.wrap ((f.id.size : Int) + (f.title.size : Int) + (f.link.size : Int)) = (f.id.size : Int) + (f.title.size : Int) + (f.link.size : Int) := mwrap (by omega) (by omega)
  have rf4 : IntKind.i64.wrap ((f.id.size : Int) + (f.title.size : Int) + (f.link.size : Int) + (f.content.size : Int)) = (f.id.size : Int) + (f.title.size : Int) + (f.link.size : Int) + (f.content.size : Int) := mwrap (by omega) (by omega)
  have HS := Lib.hid hS
  have HB := Lib.hid hB0
  unfold EntV
  have hxz : ¬ 5000 < (e.id.size : Int) + (e.title.size : Int) + (e.link.size : Int) + (e.content.size : Int) := by omega
  have hyz : ¬ 5000 < (f.id.size : Int) + (f.title.size : Int) + (f.link.size : Int) + (f.content.size : Int) := by omega
  rw [hl] at cL
  have qcL := Lib.hid cL
  clear hx hy hl cL hS hB0 hT hg hWe hWf hWg hp1 he1 cA
  go_enter Tryd.func5, Tryd.ntmps5
  go_upto_region 1 with fail
  simp only [← hW0]
  clear hW0
  obtain ⟨⟨f00, f01, f02, f03, f04⟩, ⟨f10, f11, f12, f13, f14⟩, ⟨f20, f21, f22, f23, f24, f25⟩, -⟩ := id HS.out
  go_wp2_with fail
  refine (qcL.out _ HB.out).mono ?_
  rintro e1 w1 ⟨rfl, b1⟩
  replace HS := Lib.hid (HSB.out _ _ b1 HS.out)
  replace HB := Lib.hid (HB.out.trans (b1.mono HB.out.size))
  clear b1
  clear f00 f01 f02 f03 f04 f10 f11 f12 f13 f14 f20 f21 f22 f23 f24 f25
  obtain ⟨⟨f00, f01, f02, f03, f04⟩, ⟨f10, f11, f12, f13, f14⟩, ⟨f20, f21, f22, f23, f24, f25⟩, -⟩ := id HS.out
  go_wp2_with fail
  refine (qcA.out _ HB.out).mono ?_
  rintro e2 w2 ⟨rfl, b2⟩
  replace HS := Lib.hid (HSB.out _ _ b2 HS.out)
  replace HB := Lib.hid (HB.out.trans (b2.mono HB.out.size))
  clear b2
  clear f00 f01 f02 f03 f04 f10 f11 f12 f13 f14 f20 f21 f22 f23 f24 f25
  obtain ⟨⟨f00, f01, f02, f03, f04⟩, ⟨f10, f11, f12, f13, f14⟩, ⟨f20, f21, f22, f23, f24, f25⟩, -⟩ := id HS.out
  go_wp2
  go_ret
  exact ⟨rfl, HB.out⟩
set_option maxRecDepth 100000 in
set_option maxHeartbeats 16000000 in
theorem walk_KeysD (e f : EntD) (g : FeedD) (v : Value) (w : World) (hg : FeedIs w g v) (hWe : EWf e) (hWf : EWf f) (hWg : FWf g) (hu0 : -9223372036854775808 ≤ g.upd) (hu1 : g.upd ≤ 9223372036854775807) (hT : TabW w) (hx : ¬ 5000 < e.id.size + e.title.size + e.link.size + e.content.size) (hy : ¬ 5000 < f.id.size + f.title.size + f.link.size + f.content.size) (hl : tlF 0 [g] = false) :
    Calls Tryd.prog 5 #[EntV e, EntV f, v] w fun e' w' => e' = .returned (.bool true) ∧ Below w.heap.size w w' := by
  obtain ⟨p1, c1, q1, d1, rfl, hp1, he1⟩ := hg
  have hg : FeedIs w g (.agg #[.slice p1 g.path.length c1, .string g.id, .string g.title, .string g.link, .int .i64 g.upd, .slice q1 g.ents.length d1]) := ⟨p1, c1, q1, d1, rfl, hp1, he1⟩
  obtain ⟨W0, hW0⟩ : ∃ W0, W0 = (((w.alloc (.cells #[.string e.id, .string e.title, .string e.link, .string e.content, .int .i64 e.upd] 29)).alloc (.cells #[.string f.id, .string f.title, .string f.link, .string f.content, .int .i64 f.upd] 29)).alloc (.cells #[.slice p1 g.path.length c1, .string g.id, .string g.title, .string g.link, .int .i64 g.upd, .slice q1 g.ents.length d1] 25)) := ⟨_, rfl⟩
  have hB0 : Below w.heap.size w W0 := by rw [hW0]; exact ((((Below.refl _ _).alloc (by simp) _).alloc (by simp; try omega) _).alloc (by simp; try omega) _)
  have hX0 : EBox W0 w.heap.size e := by
    have h := EBox.new w e
    rw [hW0]
    exact ((h).below ((Below.refl _ _).alloc (Nat.le_refl _) _)).below ((Below.refl _ _).alloc (Nat.le_refl _) _)
  have hX1 : EBox W0 (w.heap.size + 1) f := by
    have h := EBox.new (w.alloc (.cells #[.string e.id, .string e.title, .string e.link, .string e.content, .int .i64 e.upd] 29)) f
    rw [World.size_alloc] at h
    rw [hW0]
    exact (h).below ((Below.refl _ _).alloc (Nat.le_refl _) _)
  have hX2 : FBox W0 (w.heap.size + 2) g p1 c1 q1 d1 := by
    have h := FBox.new ((w.alloc (.cells #[.string e.id, .string e.title, .string e.link, .string e.content, .int .i64 e.upd] 29)).alloc (.cells #[.string f.id, .string f.title, .string f.link, .string f.content, .int .i64 f.upd] 29)) g p1 c1 q1 d1
    rw [World.size_alloc, World.size_alloc] at h
    rw [hW0]
    exact h
  have hS : EBox W0 w.heap.size e ∧ EBox W0 (w.heap.size + 1) f ∧ FBox W0 (w.heap.size + 2) g p1 c1 q1 d1 ∧ True := ⟨hX0, hX1, hX2, trivial⟩
  have HSB := Lib.hid (fun (u1 u2 : World) (hb : Below u1.heap.size u1 u2) (h : EBox u1 w.heap.size e ∧ EBox u1 (w.heap.size + 1) f ∧ FBox u1 (w.heap.size + 2) g p1 c1 q1 d1 ∧ True) => (show EBox u2 w.heap.size e ∧ EBox u2 (w.heap.size + 1) f ∧ FBox u2 (w.heap.size + 2) g p1 c1 q1 d1 ∧ True from ⟨h.1.below hb, h.2.1.below hb, h.2.2.1.below hb, trivial⟩))
  clear hX0 hX1 hX2
  have cA := fun wx (hb : Below w.heap.size w wx) => mc_alive wx (TabW_below hT hb)
  have qcA := Lib.hid cA
  have cL := fun wx (hb : Below w.heap.size w wx) => law_large g _ wx (hg.below hb) hWg
  have s1 := hWe.id
  have s2 := hWe.title
  have s3 := hWe.link
  have s4 := hWe.content
  have s5 := hWf.id
  have s6 := hWf.title
  have s7 := hWf.link
  have s8 := hWf.content
  have re2 : IntKind.i64.wrap ((e.id.size : Int) + (e.title.size : Int)) = (e.id.size : Int) + (e.title.size : Int) := mwrap (by omega) (by omega)
  have re3 : IntKind.i64.wrap ((e.id.size : Int) + (e.title.size : Int) + (e.link.size : Int)) = (e.id.size : Int) + (e.title.size : Int) + (e.link.size : Int) := mwrap (by omega) (by omega)
  have re4 : IntKind.i64.wrap ((e.id.size : Int) + (e.title.size : Int) + (e.link.size : Int) + (e.content.size : Int)) = (e.id.size : Int) + (e.title.size : Int) + (e.link.size : Int) + (e.content.size : Int) := mwrap (by omega) (by omega)
  have rf2 : IntKind.i64.wrap ((f.id.size : Int) + (f.title.size : Int)) = (f.id.size : Int) + (f.title.size : Int) := mwrap (by omega) (by omega)
  have rf3 : IntKind.i64.wrap ((f.id.size : Int) + (f.title.size : Int) + (f.link.size : Int)) = (f.id.size : Int) + (f.title.size : Int) + (f.link.size : Int) := mwrap (by omega) (by omega)
  have rf4 : IntKind.i64.wrap ((f.id.size : Int) + (f.title.size : Int) + (f.link.size : Int) + (f.content.size : Int)) = (f.id.size : Int) + (f.title.size : Int) + (f.link.size : Int) + (f.content.size : Int) := mwrap (by omega) (by omega)
  have HS := Lib.hid hS
  have HB := Lib.hid hB0
  unfold EntV
  have hxz : ¬ 5000 < (e.id.size : Int) + (e.title.size : Int) + (e.link.size : Int) + (e.content.size : Int) := by omega
  have hyz : ¬ 5000 < (f.id.size : Int) + (f.title.size : Int) + (f.link.size : Int) + (f.content.size : Int) := by omega
  have hm := (tlF_small [g] 0 hl (by omega)).2 g (List.mem_singleton.2 rfl)
  have k1 := fun wx (hb : Below w.heap.size w wx) => mc_EntryKey e wx (by omega) hWe.u0 hWe.u1 (TabW_below hT hb)
  have k2 := fun wx (hb : Below w.heap.size w wx) => mc_EntryKey f wx (by omega) hWf.u0 hWf.u1 (TabW_below hT hb)
  have k3 := fun wx (hb : Below w.heap.size w wx) => mc_FeedKey g _ wx (hg.below hb) (by have := hm.qu; omega) (by have := hm.id; have := hm.title; have := hm.link; omega) (by have := hm.plen; omega) hu0 hu1 (TabW_below hT hb)
  have l1 := fun wx => mref_EntryKey e wx (by omega) (by omega) (by omega) (by omega) hWe.u0 hWe.u1
  have l2 := fun wx => mref_EntryKey f wx (by omega) (by omega) (by omega) (by omega) hWf.u0 hWf.u1
  have l3 := fun wx (hb : Below w.heap.size w wx) => mref_FeedKey g _ wx (hg.below hb) (fun s hs => by have := hm.path s hs; omega) (by have := hm.qu; omega) (by have := hm.plen; omega) (by have := hm.id; omega) (by have := hm.title; omega) (by have := hm.link; omega) hu0 hu1
  have hsame := keys_same e f hWe hWf
  have hEq := fun wx => ment_eql e f wx
  rw [hl] at cL
  unfold EntV at k1 k2 l1 l2 hEq
  have hke : ekL e ≠ [] ↔ (ofBytes (ekL e)).toList ≠ [] := by rw [ByteArray.toList_eq, ofBytes_list]
  rw [hke] at hsame
  generalize ofBytes (ekL e) = kx at *
  generalize ofBytes (ekL f) = ky at *
  generalize ofBytes (fkL g) = kg at *
  generalize eqE e f = q at *
  have n1 : (kx.toList == kx.toList) = true := by simp
  have n2 : (ky.toList == ky.toList) = true := by simp
  have n3 : (kg.toList == kg.toList) = true := by simp
  have qcL := Lib.hid cL
  have qk1 := Lib.hid k1
  have qk2 := Lib.hid k2
  have qk3 := Lib.hid k3
  have ql1 := Lib.hid l1
  have ql2 := Lib.hid l2
  have ql3 := Lib.hid l3
  have qsm := Lib.hid hsame
  clear hx hy hl cL k1 k2 k3 l1 l2 l3 hsame hke hm hS hB0 hT hg hWe hWf hWg hp1 he1 cA hu0 hu1
  go_enter Tryd.func5, Tryd.ntmps5
  go_upto_region 1 with fail
  simp only [← hW0]
  clear hW0
  obtain ⟨⟨f00, f01, f02, f03, f04⟩, ⟨f10, f11, f12, f13, f14⟩, ⟨f20, f21, f22, f23, f24, f25⟩, -⟩ := id HS.out
  go_wp2_with fail
  refine (qcL.out _ HB.out).mono ?_
  rintro e1 w1 ⟨rfl, b1⟩
  replace HS := Lib.hid (HSB.out _ _ b1 HS.out)
  replace HB := Lib.hid (HB.out.trans (b1.mono HB.out.size))
  clear b1
  clear f00 f01 f02 f03 f04 f10 f11 f12 f13 f14 f20 f21 f22 f23 f24 f25
  obtain ⟨⟨f00, f01, f02, f03, f04⟩, ⟨f10, f11, f12, f13, f14⟩, ⟨f20, f21, f22, f23, f24, f25⟩, -⟩ := id HS.out
  go_wp2
  have SD2 : EBox w1.drew w.heap.size e ∧ EBox w1.drew (w.heap.size + 1) f ∧ FBox w1.drew (w.heap.size + 2) g p1 c1 q1 d1 ∧ True := HS.out
  have HD2 := Lib.hid (show Below w.heap.size w w1.drew from HB.out.drew)
  clear HS HB
  clear f00 f01 f02 f03 f04 f10 f11 f12 f13 f14 f20 f21 f22 f23 f24 f25
  refine wp_region_late (S := fun w' => EBox w' w.heap.size e ∧ EBox w' (w.heap.size + 1) f ∧ FBox w' (w.heap.size + 2) g p1 c1 q1 d1 ∧ True) (D := []) (by kernel_rfl) ?_
  refine anyL_take (i := 0) (oi := { dst := some 48, op := Go.Op.load 29 (Go.Operand.tmp 3), type := 29, pos := "law.go:93", after := #[], guard := none }) (v := ?_) rfl (by decide) (by kernel_rfl) (by kernel_rfl) (by kernel_rfl) (by kernel_rfl) (fun _ _ _ h => h) (Or.inl ⟨by rfl, ?_⟩) SD2 ?_
  rotate_left
  · intro wz hSz
    obtain ⟨⟨z0, z1, z2, z3, z4⟩, ⟨z5, z6, z7, z8, z9⟩, ⟨z10, z11, z12, z13, z14, z15⟩, -⟩ := hSz
    go_simp
    (try with_reducible rfl)
  try simp only [Act.put, List.setIfInBounds_toArray, List.set_cons_zero, List.set_cons_succ]
  refine anyL_take (i := 2) (oi := { dst := some 50, op := Go.Op.load 29 (Go.Operand.tmp 4), type := 29, pos := "law.go:93", after := #[], guard := none }) (v := ?_) rfl (by decide) (by kernel_rfl) (by kernel_rfl) (by kernel_rfl) (by kernel_rfl) (fun _ _ _ h => h) (Or.inl ⟨by rfl, ?_⟩) SD2 ?_
  rotate_left
  · intro wz hSz
    obtain ⟨⟨z0, z1, z2, z3, z4⟩, ⟨z5, z6, z7, z8, z9⟩, ⟨z10, z11, z12, z13, z14, z15⟩, -⟩ := hSz
    go_simp
    (try with_reducible rfl)
  try simp only [Act.put, List.setIfInBounds_toArray, List.set_cons_zero, List.set_cons_succ]
  refine anyL_ready (rs := [1]) (by kernel_rfl) (by simp) ?_
  refine AllL.cons (o := { dst := some 49, op := Go.Op.call { callee := Go.Callee.value (Go.Operand.func 17), args := #[Go.Operand.tmp 48], argTypes := #[29] }, type := 9, pos := "law.go:93", after := #[{ on := 0, ground := Go.Ground.data }], guard := none }) rfl (fun K' hK => ?_) AllL.nil
  rw [if_pos (by rfl)]
  go_simp
  go_at_call 17
  refine (qk1.out _ HD2.out).mono ?_
  rintro e3 w3 ⟨rfl, b3⟩
  have S3 := HSB.out _ _ b3 SD2
  have HB3 := Lib.hid (HD2.out.trans (b3.mono HD2.out.size))
  refine hK _ _ S3 ?_
  clear hK K' b3 SD2
  try simp only [Act.put, List.setIfInBounds_toArray, List.set_cons_zero, List.set_cons_succ]
  refine anyL_ready (rs := [3]) (by kernel_rfl) (by simp) ?_
  refine AllL.cons (o := { dst := some 51, op := Go.Op.call { callee := Go.Callee.value (Go.Operand.func 17), args := #[Go.Operand.tmp 50], argTypes := #[29] }, type := 9, pos := "law.go:93", after := #[{ on := 2, ground := Go.Ground.data }, { on := 1, ground := Go.Ground.chain }], guard := none }) rfl (fun K' hK => ?_) AllL.nil
  rw [if_pos (by rfl)]
  go_simp
  go_at_call 17
  refine (qk2.out _ HB3.out).mono ?_
  rintro e4 w4 ⟨rfl, b4⟩
  have S4 := HSB.out _ _ b4 S3
  have HB4 := Lib.hid (HB3.out.trans (b4.mono HB3.out.size))
  refine hK _ _ S4 ?_
  clear hK K' b4 S3
  try simp only [Act.put, List.setIfInBounds_toArray, List.set_cons_zero, List.set_cons_succ]
  refine anyL_take (i := 4) (oi := { dst := some 7, op := Go.Op.assign (Go.Operand.tmp 49), type := 9, pos := "law.go:93", after := #[{ on := 1, ground := Go.Ground.data }, { on := 3, ground := Go.Ground.chain }, { on := 0, ground := Go.Ground.phase }, { on := 1, ground := Go.Ground.phase }, { on := 2, ground := Go.Ground.textOnly Go.Departure.lateStores }, { on := 3, ground := Go.Ground.textOnly Go.Departure.lateStoresUnsure }], guard := none }) (v := ?_) rfl (by decide) (by kernel_rfl) (by kernel_rfl) (by kernel_rfl) (by kernel_rfl) (fun _ _ _ h => h) (Or.inl ⟨by rfl, ?_⟩) S4 ?_
  rotate_left
  · intro wz hSz
    skip
    go_simp
    (try with_reducible rfl)
  try simp only [Act.put, List.setIfInBounds_toArray, List.set_cons_zero, List.set_cons_succ]
  refine anyL_take (i := 5) (oi := { dst := some 8, op := Go.Op.assign (Go.Operand.tmp 51), type := 9, pos := "law.go:93", after := #[{ on := 3, ground := Go.Ground.data }, { on := 4, ground := Go.Ground.chain }, { on := 0, ground := Go.Ground.phase }, { on := 1, ground := Go.Ground.phase }, { on := 2, ground := Go.Ground.phase }, { on := 3, ground := Go.Ground.phase }, { on := 4, ground := Go.Ground.phase }], guard := none }) (v := ?_) rfl (by decide) (by kernel_rfl) (by kernel_rfl) (by kernel_rfl) (by kernel_rfl) (fun _ _ _ h => h) (Or.inl ⟨by rfl, ?_⟩) S4 ?_
  rotate_left
  · intro wz hSz
    skip
    go_simp
    (try with_reducible rfl)
  try simp only [Act.put, List.setIfInBounds_toArray, List.set_cons_zero, List.set_cons_succ]
  refine anyL_done (by kernel_rfl) ?_ _
  have HS := Lib.hid S4
  have HB := HB4
  clear S4 HB4
  obtain ⟨⟨f00, f01, f02, f03, f04⟩, ⟨f10, f11, f12, f13, f14⟩, ⟨f20, f21, f22, f23, f24, f25⟩, -⟩ := id HS.out
  go_wp2
  have SD5 : EBox w4.drew w.heap.size e ∧ EBox w4.drew (w.heap.size + 1) f ∧ FBox w4.drew (w.heap.size + 2) g p1 c1 q1 d1 ∧ True := HS.out
  have HD5 := Lib.hid (show Below w.heap.size w w4.drew from HB.out.drew)
  clear HS HB
  clear f00 f01 f02 f03 f04 f10 f11 f12 f13 f14 f20 f21 f22 f23 f24 f25
  refine wp_region_late (S := fun w' => EBox w' w.heap.size e ∧ EBox w' (w.heap.size + 1) f ∧ FBox w' (w.heap.size + 2) g p1 c1 q1 d1 ∧ True) (D := []) (by kernel_rfl) ?_
  refine anyL_take (i := 0) (oi := { dst := some 52, op := Go.Op.move (Go.Operand.tmp 7), type := 9, pos := "law.go:94", after := #[], guard := none }) (v := ?_) rfl (by decide) (by kernel_rfl) (by kernel_rfl) (by kernel_rfl) (by kernel_rfl) (fun _ _ _ h => h) (Or.inl ⟨by rfl, ?_⟩) SD5 ?_
  rotate_left
  · intro wz hSz
    skip
    go_simp
    (try with_reducible rfl)
  try simp only [Act.put, List.setIfInBounds_toArray, List.set_cons_zero, List.set_cons_succ]
  refine anyL_take (i := 1) (oi := { dst := some 53, op := Go.Op.load 29 (Go.Operand.tmp 3), type := 29, pos := "law.go:94", after := #[], guard := none }) (v := ?_) rfl (by decide) (by kernel_rfl) (by kernel_rfl) (by kernel_rfl) (by kernel_rfl) (fun _ _ _ h => h) (Or.inl ⟨by rfl, ?_⟩) SD5 ?_
  rotate_left
  · intro wz hSz
    obtain ⟨⟨z0, z1, z2, z3, z4⟩, ⟨z5, z6, z7, z8, z9⟩, ⟨z10, z11, z12, z13, z14, z15⟩, -⟩ := hSz
    go_simp
    (try with_reducible rfl)
  try simp only [Act.put, List.setIfInBounds_toArray, List.set_cons_zero, List.set_cons_succ]
  refine anyL_ready (rs := [2]) (by kernel_rfl) (by simp) ?_
  refine AllL.cons (o := { dst := some 54, op := Go.Op.call { callee := Go.Callee.value (Go.Operand.func 18), args := #[Go.Operand.tmp 53], argTypes := #[29] }, type := 9, pos := "law.go:94", after := #[{ on := 1, ground := Go.Ground.data }], guard := none }) rfl (fun K' hK => ?_) AllL.nil
  rw [if_pos (by rfl)]
  go_simp
  go_at_call 18
  refine (ql1.out _).mono ?_
  rintro e6 w6 ⟨rfl, b6⟩
  have S6 := HSB.out _ _ b6 SD5
  have HB6 := Lib.hid (HD5.out.trans (b6.mono HD5.out.size))
  refine hK _ _ S6 ?_
  clear hK K' b6 SD5
  try simp only [Act.put, List.setIfInBounds_toArray, List.set_cons_zero, List.set_cons_succ]
  refine anyL_take (i := 3) (oi := { dst := some 55, op := Go.Op.binOp Go.BinOp.neq 9 (Go.Operand.tmp 52) (Go.Operand.tmp 54) 9, type := 4, pos := "law.go:94", after := #[{ on := 0, ground := Go.Ground.data }, { on := 2, ground := Go.Ground.data }], guard := none }) (v := ?_) rfl (by decide) (by kernel_rfl) (by kernel_rfl) (by kernel_rfl) (by kernel_rfl) (fun _ _ _ h => h) (Or.inl ⟨by rfl, ?_⟩) S6 ?_
  rotate_left
  · intro wz hSz
    skip
    go_simp
    (try with_reducible rfl)
  try simp only [Act.put, List.setIfInBounds_toArray, List.set_cons_zero, List.set_cons_succ]
  refine anyL_take (i := 4) (oi := { dst := some 56, op := Go.Op.move (Go.Operand.tmp 55), type := 4, pos := "law.go:94", after := #[{ on := 3, ground := Go.Ground.data }, { on := 2, ground := Go.Ground.chain }], guard := none }) (v := ?_) rfl (by decide) (by kernel_rfl) (by kernel_rfl) (by kernel_rfl) (by kernel_rfl) (fun _ _ _ h => h) (Or.inl ⟨by rfl, ?_⟩) S6 ?_
  rotate_left
  · intro wz hSz
    skip
    go_simp
    (try with_reducible rfl)
  try simp only [Act.put, List.setIfInBounds_toArray, List.set_cons_zero, List.set_cons_succ]
  refine anyL_take (i := 5) (oi := { dst := some 57, op := Go.Op.move (Go.Operand.tmp 8), type := 9, pos := "law.go:94", after := #[{ on := 4, ground := Go.Ground.guard }], guard := some (4, false) }) (v := ?_) rfl (by decide) (by kernel_rfl) (by kernel_rfl) (by kernel_rfl) (by kernel_rfl) (fun _ _ _ h => h) (Or.inl ⟨by rfl, ?_⟩) S6 ?_
  rotate_left
  · intro wz hSz
    skip
    go_simp
    (try with_reducible rfl)
  try simp only [Act.put, List.setIfInBounds_toArray, List.set_cons_zero, List.set_cons_succ]
  refine anyL_take (i := 6) (oi := { dst := some 58, op := Go.Op.load 29 (Go.Operand.tmp 4), type := 29, pos := "law.go:94", after := #[{ on := 4, ground := Go.Ground.guard }], guard := some (4, false) }) (v := ?_) rfl (by decide) (by kernel_rfl) (by kernel_rfl) (by kernel_rfl) (by kernel_rfl) (fun _ _ _ h => h) (Or.inl ⟨by rfl, ?_⟩) S6 ?_
  rotate_left
  · intro wz hSz
    obtain ⟨⟨z0, z1, z2, z3, z4⟩, ⟨z5, z6, z7, z8, z9⟩, ⟨z10, z11, z12, z13, z14, z15⟩, -⟩ := hSz
    go_simp
    (try with_reducible rfl)
  try simp only [Act.put, List.setIfInBounds_toArray, List.set_cons_zero, List.set_cons_succ]
  refine anyL_ready (rs := [7]) (by kernel_rfl) (by simp) ?_
  refine AllL.cons (o := { dst := some 59, op := Go.Op.call { callee := Go.Callee.value (Go.Operand.func 18), args := #[Go.Operand.tmp 58], argTypes := #[29] }, type := 9, pos := "law.go:94", after := #[{ on := 6, ground := Go.Ground.data }, { on := 4, ground := Go.Ground.chain }, { on := 4, ground := Go.Ground.guard }], guard := some (4, false) }) rfl (fun K' hK => ?_) AllL.nil
  rw [if_pos (by rfl)]
  go_simp
  go_at_call 18
  refine (ql2.out _).mono ?_
  rintro e7 w7 ⟨rfl, b7⟩
  have S7 := HSB.out _ _ b7 S6
  have HB7 := Lib.hid (HB6.out.trans (b7.mono HB6.out.size))
  refine hK _ _ S7 ?_
  clear hK K' b7 S6
  try simp only [Act.put, List.setIfInBounds_toArray, List.set_cons_zero, List.set_cons_succ]
  refine anyL_take (i := 8) (oi := { dst := some 60, op := Go.Op.binOp Go.BinOp.neq 9 (Go.Operand.tmp 57) (Go.Operand.tmp 59) 9, type := 4, pos := "law.go:94", after := #[{ on := 5, ground := Go.Ground.data }, { on := 7, ground := Go.Ground.data }, { on := 4, ground := Go.Ground.guard }], guard := some (4, false) }) (v := ?_) rfl (by decide) (by kernel_rfl) (by kernel_rfl) (by kernel_rfl) (by kernel_rfl) (fun _ _ _ h => h) (Or.inl ⟨by rfl, ?_⟩) S7 ?_
  rotate_left
  · intro wz hSz
    skip
    go_simp
    (try with_reducible rfl)
  try simp only [Act.put, List.setIfInBounds_toArray, List.set_cons_zero, List.set_cons_succ]
  refine anyL_take (i := 9) (oi := { dst := some 61, op := Go.Op.pick (Go.Operand.tmp 56) (Go.Operand.const (Go.Value.bool true)) (Go.Operand.tmp 60), type := 4, pos := "law.go:94", after := #[{ on := 4, ground := Go.Ground.data }, { on := 8, ground := Go.Ground.data }], guard := none }) (v := ?_) rfl (by decide) (by kernel_rfl) (by kernel_rfl) (by kernel_rfl) (by kernel_rfl) (fun _ _ _ h => h) (Or.inl ⟨by rfl, ?_⟩) S7 ?_
  rotate_left
  · intro wz hSz
    skip
    go_simp
    (try with_reducible rfl)
  try simp only [Act.put, List.setIfInBounds_toArray, List.set_cons_zero, List.set_cons_succ]
  refine anyL_take (i := 10) (oi := { dst := some 62, op := Go.Op.move (Go.Operand.tmp 61), type := 4, pos := "law.go:94", after := #[{ on := 9, ground := Go.Ground.data }, { on := 7, ground := Go.Ground.chain }], guard := none }) (v := ?_) rfl (by decide) (by kernel_rfl) (by kernel_rfl) (by kernel_rfl) (by kernel_rfl) (fun _ _ _ h => h) (Or.inl ⟨by rfl, ?_⟩) S7 ?_
  rotate_left
  · intro wz hSz
    skip
    go_simp
    (try with_reducible rfl)
  try simp only [Act.put, List.setIfInBounds_toArray, List.set_cons_zero, List.set_cons_succ]
  refine anyL_take (i := 11) (oi := { dst := some 63, op := Go.Op.load 25 (Go.Operand.tmp 5), type := 25, pos := "law.go:94", after := #[{ on := 10, ground := Go.Ground.guard }], guard := some (10, false) }) (v := ?_) rfl (by decide) (by kernel_rfl) (by kernel_rfl) (by kernel_rfl) (by kernel_rfl) (fun _ _ _ h => h) (Or.inl ⟨by rfl, ?_⟩) S7 ?_
  rotate_left
  · intro wz hSz
    obtain ⟨⟨z0, z1, z2, z3, z4⟩, ⟨z5, z6, z7, z8, z9⟩, ⟨z10, z11, z12, z13, z14, z15⟩, -⟩ := hSz
    go_simp
    (try with_reducible rfl)
  try simp only [Act.put, List.setIfInBounds_toArray, List.set_cons_zero, List.set_cons_succ]
  refine anyL_take (i := 13) (oi := { dst := some 65, op := Go.Op.load 25 (Go.Operand.tmp 5), type := 25, pos := "law.go:94", after := #[{ on := 10, ground := Go.Ground.guard }], guard := some (10, false) }) (v := ?_) rfl (by decide) (by kernel_rfl) (by kernel_rfl) (by kernel_rfl) (by kernel_rfl) (fun _ _ _ h => h) (Or.inl ⟨by rfl, ?_⟩) S7 ?_
  rotate_left
  · intro wz hSz
    obtain ⟨⟨z0, z1, z2, z3, z4⟩, ⟨z5, z6, z7, z8, z9⟩, ⟨z10, z11, z12, z13, z14, z15⟩, -⟩ := hSz
    go_simp
    (try with_reducible rfl)
  try simp only [Act.put, List.setIfInBounds_toArray, List.set_cons_zero, List.set_cons_succ]
  refine anyL_ready (rs := [12]) (by kernel_rfl) (by simp) ?_
  refine AllL.cons (o := { dst := some 64, op := Go.Op.call { callee := Go.Callee.value (Go.Operand.func 19), args := #[Go.Operand.tmp 63], argTypes := #[25] }, type := 9, pos := "law.go:94", after := #[{ on := 11, ground := Go.Ground.data }, { on := 10, ground := Go.Ground.chain }, { on := 10, ground := Go.Ground.guard }], guard := some (10, false) }) rfl (fun K' hK => ?_) AllL.nil
  rw [if_pos (by rfl)]
  go_simp
  go_at_call 19
  refine (qk3.out _ HB7.out).mono ?_
  rintro e8 w8 ⟨rfl, b8⟩
  have S8 := HSB.out _ _ b8 S7
  have HB8 := Lib.hid (HB7.out.trans (b8.mono HB7.out.size))
  refine hK _ _ S8 ?_
  clear hK K' b8 S7
  try simp only [Act.put, List.setIfInBounds_toArray, List.set_cons_zero, List.set_cons_succ]
  refine anyL_ready (rs := [14]) (by kernel_rfl) (by simp) ?_
  refine AllL.cons (o := { dst := some 66, op := Go.Op.call { callee := Go.Callee.value (Go.Operand.func 20), args := #[Go.Operand.tmp 65], argTypes := #[25] }, type := 9, pos := "law.go:94", after := #[{ on := 13, ground := Go.Ground.data }, { on := 12, ground := Go.Ground.chain }, { on := 10, ground := Go.Ground.guard }], guard := some (10, false) }) rfl (fun K' hK => ?_) AllL.nil
  rw [if_pos (by rfl)]
  go_simp
  go_at_call 20
  refine (ql3.out _ HB8.out).mono ?_
  rintro e9 w9 ⟨rfl, b9⟩
  have S9 := HSB.out _ _ b9 S8
  have HB9 := Lib.hid (HB8.out.trans (b9.mono HB8.out.size))
  refine hK _ _ S9 ?_
  clear hK K' b9 S8
  try simp only [Act.put, List.setIfInBounds_toArray, List.set_cons_zero, List.set_cons_succ]
  refine anyL_take (i := 15) (oi := { dst := some 67, op := Go.Op.binOp Go.BinOp.neq 9 (Go.Operand.tmp 64) (Go.Operand.tmp 66) 9, type := 4, pos := "law.go:94", after := #[{ on := 12, ground := Go.Ground.data }, { on := 14, ground := Go.Ground.data }, { on := 10, ground := Go.Ground.guard }], guard := some (10, false) }) (v := ?_) rfl (by decide) (by kernel_rfl) (by kernel_rfl) (by kernel_rfl) (by kernel_rfl) (fun _ _ _ h => h) (Or.inl ⟨by rfl, ?_⟩) S9 ?_
  rotate_left
  · intro wz hSz
    skip
    go_simp
    (try with_reducible rfl)
  try simp only [Act.put, List.setIfInBounds_toArray, List.set_cons_zero, List.set_cons_succ]
  refine anyL_take (i := 16) (oi := { dst := some 68, op := Go.Op.pick (Go.Operand.tmp 62) (Go.Operand.const (Go.Value.bool true)) (Go.Operand.tmp 67), type := 4, pos := "law.go:94", after := #[{ on := 10, ground := Go.Ground.data }, { on := 15, ground := Go.Ground.data }], guard := none }) (v := ?_) rfl (by decide) (by kernel_rfl) (by kernel_rfl) (by kernel_rfl) (by kernel_rfl) (fun _ _ _ h => h) (Or.inl ⟨by rfl, ?_⟩) S9 ?_
  rotate_left
  · intro wz hSz
    skip
    go_simp
    (try with_reducible rfl)
  try simp only [Act.put, List.setIfInBounds_toArray, List.set_cons_zero, List.set_cons_succ]
  refine anyL_done (by kernel_rfl) ?_ _
  have HS := Lib.hid S9
  have HB := HB9
  clear S9 HB9
  clear n1 n2 n3
  obtain ⟨⟨f00, f01, f02, f03, f04⟩, ⟨f10, f11, f12, f13, f14⟩, ⟨f20, f21, f22, f23, f24, f25⟩, -⟩ := id HS.out
  go_wp2_with fail
  refine (qcA.out _ HB.out).mono ?_
  rintro e10 w10 ⟨rfl, b10⟩
  replace HS := Lib.hid (HSB.out _ _ b10 HS.out)
  replace HB := Lib.hid (HB.out.trans (b10.mono HB.out.size))
  clear b10
  clear f00 f01 f02 f03 f04 f10 f11 f12 f13 f14 f20 f21 f22 f23 f24 f25
  obtain ⟨⟨f00, f01, f02, f03, f04⟩, ⟨f10, f11, f12, f13, f14⟩, ⟨f20, f21, f22, f23, f24, f25⟩, -⟩ := id HS.out
  by_cases hx0 : kx.toList = []
  · have hx1 : (kx.toList == []) = true := by rw [hx0]; rfl
    have hx2 : kx.toList.isEmpty = true := by rw [hx0]; rfl
    go_wp2
    go_ret
    exact ⟨by first | rfl | simp, HB.out⟩
  have hx1 : (kx.toList == []) = false := beq_eq_false_iff_ne.2 hx0
  have hx2 : kx.toList.isEmpty = false := by cases hk : kx.toList with | nil => exact absurd hk hx0 | cons _ _ => rfl
  have hsm := qsm.out hx0
  by_cases hy0 : ky.toList = []
  · have hy1 : (ky.toList == []) = true := by rw [hy0]; rfl
    have hy2 : ky.toList.isEmpty = true := by rw [hy0]; rfl
    clear hsm
    go_wp2
    go_ret
    exact ⟨by first | rfl | simp, HB.out⟩
  have hy1 : (ky.toList == []) = false := beq_eq_false_iff_ne.2 hy0
  have hy2 : ky.toList.isEmpty = false := by cases hk : ky.toList with | nil => exact absurd hk hy0 | cons _ _ => rfl
  cases q
  · have hne : ¬ kx.toList = ky.toList := beq_eq_false_iff_ne.1 hsm
    go_wp2
    go_ret
    exact ⟨by first | rfl | simp, HB.out⟩
  · have hee : kx.toList = ky.toList := eq_of_beq hsm
    go_wp2
    go_ret
    exact ⟨by first | rfl | simp, HB.out⟩
theorem walk_Keys (e f : EntD) (g : FeedD) (v : Value) (w : World) (hg : FeedIs w g v) (hWe : EWf e) (hWf : EWf f) (hWg : FWf g) (hu0 : -9223372036854775808 ≤ g.upd) (hu1 : g.upd ≤ 9223372036854775807) (hT : TabW w):
    Calls Tryd.prog 5 #[EntV e, EntV f, v] w fun e' w' => e' = .returned (.bool true) ∧ Below w.heap.size w w' := by
  by_cases hx : 5000 < e.id.size + e.title.size + e.link.size + e.content.size
  · exact walk_KeysA e f g v w hg hWe hWf hWg hT hx
  by_cases hy : 5000 < f.id.size + f.title.size + f.link.size + f.content.size
  · exact walk_KeysB e f g v w hg hWe hWf hWg hT hx hy
  rcases hl : tlF 0 [g] with _ | _
  · exact walk_KeysD e f g v w hg hWe hWf hWg hu0 hu1 hT hx hy hl
  · exact walk_KeysC e f g v w hg hWe hWf hWg hT hx hy hl
end Go.Proofs.YtggfblodjanfkaaDoor
end
