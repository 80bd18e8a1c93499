/- Packed from the texts MeJ. -/
import Derived.Test.YtbfalppeifkjdaaGreatDoorXMeI
import Derived.Test.YtbfalppeifkjdaaGreatDoorXkN
import Derived.Test.YtbfalppeifkjdaaGreatDoorXl1
import Derived.Laws.OwnMore
section
namespace Go.Proofs.YtbfalppeifkjdaaGreatDoor
open Go.RowKit
set_option maxRecDepth 100000 in
theorem mc_updF (i t l : ByteArray) (u : Int) (w : World) (p : Option Addr) (n c : Nat) (q : Option Addr) (m d : Nat) : Calls Tryz.prog 96 #[.agg #[.slice p n c, .string i, .string t, .string l, .int .i64 u, .slice q m d]] w fun e w' => e = .returned (.int .i64 u) ∧ Below w.heap.size w w' := by
  have hb : ∀ o : Obj, Below w.heap.size w (w.alloc o) := fun o => (Below.refl _ _).alloc (Nat.le_refl _) o
  have HB := Lib.hid hb
  clear hb
  go_enter Tryz.func96, Tryz.ntmps96
  go_wp2
  go_ret
  exact ⟨rfl, HB.out _⟩
set_option maxRecDepth 100000 in
set_option maxHeartbeats 16000000 in
theorem mc_laterF (x y : FeedD) (p1 : Option Addr) (c1 : Nat) (q1 : Option Addr) (d1 : Nat) (p2 : Option Addr) (c2 : Nat) (q2 : Option Addr) (d2 : Nat) (KX KY : List UInt8) (w : World) (k1 : ∀ wx, Below w.heap.size w wx → Calls Tryz.prog 97 #[.agg #[.slice p1 x.path.length c1, .string x.id, .string x.title, .string x.link, .int .i64 x.upd, .slice q1 x.ents.length d1]] wx fun e w' => e = .returned (.string (ofBytes KX)) ∧ Below wx.heap.size wx w') (k2 : ∀ wx, Below w.heap.size w wx → Calls Tryz.prog 97 #[.agg #[.slice p2 y.path.length c2, .string y.id, .string y.title, .string y.link, .int .i64 y.upd, .slice q2 y.ents.length d2]] wx fun e w' => e = .returned (.string (ofBytes KY)) ∧ Below wx.heap.size wx w') :
    Calls Tryz.prog 95 #[.agg #[.slice p1 x.path.length c1, .string x.id, .string x.title, .string x.link, .int .i64 x.upd, .slice q1 x.ents.length d1], .agg #[.slice p2 y.path.length c2, .string y.id, .string y.title, .string y.link, .int .i64 y.upd, .slice q2 y.ents.length d2], .func (.func 96) #[] #[], .func (.func 97) #[] #[]] w fun e w' => e = .returned (if lexI (cmpU y.upd x.upd) (cmpL KX KY) < 0 then .agg #[.slice p2 y.path.length c2, .string y.id, .string y.title, .string y.link, .int .i64 y.upd, .slice q2 y.ents.length d2] else .agg #[.slice p1 x.path.length c1, .string x.id, .string x.title, .string x.link, .int .i64 x.upd, .slice q1 x.ents.length d1]) ∧ Below w.heap.size w w' := by
  obtain ⟨W3, hW3⟩ : ∃ W3, W3 = ((w.alloc (.cells #[.slice p1 x.path.length c1, .string x.id, .string x.title, .string x.link, .int .i64 x.upd, .slice q1 x.ents.length d1] 35)).alloc (.cells #[.slice p2 y.path.length c2, .string y.id, .string y.title, .string y.link, .int .i64 y.upd, .slice q2 y.ents.length d2] 35)).alloc (.cells #[.slice none 0 0, .string ⟨#[]⟩, .string ⟨#[]⟩, .string ⟨#[]⟩, .int .i64 0, .slice none 0 0] 35) := ⟨_, rfl⟩
  have hB : Below w.heap.size w W3 := by rw [hW3]; exact (((Below.refl _ _).alloc (Nat.le_refl _) _).alloc (by simp) _).alloc (by simp; omega) _
  have hX : W3.cell? ⟨w.heap.size, 0, none⟩ = some (.slice p1 x.path.length c1) ∧ W3.cell? ⟨w.heap.size, 1, none⟩ = some (.string x.id) ∧ W3.cell? ⟨w.heap.size, 2, none⟩ = some (.string x.title) ∧ W3.cell? ⟨w.heap.size, 3, none⟩ = some (.string x.link) ∧ W3.cell? ⟨w.heap.size, 4, none⟩ = some (.int .i64 x.upd) ∧ W3.cell? ⟨w.heap.size, 5, none⟩ = some (.slice q1 x.ents.length d1) := by
    have h := heap_alloc_new w (.cells #[.slice p1 x.path.length c1, .string x.id, .string x.title, .string x.link, .int .i64 x.upd, .slice q1 x.ents.length d1] 35)
    have hk := ((Below.refl _ (w.alloc (.cells #[.slice p1 x.path.length c1, .string x.id, .string x.title, .string x.link, .int .i64 x.upd, .slice q1 x.ents.length d1] 35))).alloc (Nat.le_refl _) (.cells #[.slice p2 y.path.length c2, .string y.id, .string y.title, .string y.link, .int .i64 y.upd, .slice q2 y.ents.length d2] 35))
    have hk2 := ((Below.refl _ ((w.alloc (.cells #[.slice p1 x.path.length c1, .string x.id, .string x.title, .string x.link, .int .i64 x.upd, .slice q1 x.ents.length d1] 35)).alloc (.cells #[.slice p2 y.path.length c2, .string y.id, .string y.title, .string y.link, .int .i64 y.upd, .slice q2 y.ents.length d2] 35))).alloc (Nat.le_refl _) (.cells #[.slice none 0 0, .string ⟨#[]⟩, .string ⟨#[]⟩, .string ⟨#[]⟩, .int .i64 0, .slice none 0 0] 35))
    rw [hW3]
    exact ⟨mcell hk2 (mcell hk (cell_of_row _ _ 0 _ _ _ h)), mcell hk2 (mcell hk (cell_of_row _ _ 1 _ _ _ h)), mcell hk2 (mcell hk (cell_of_row _ _ 2 _ _ _ h)), mcell hk2 (mcell hk (cell_of_row _ _ 3 _ _ _ h)), mcell hk2 (mcell hk (cell_of_row _ _ 4 _ _ _ h)), mcell hk2 (mcell hk (cell_of_row _ _ 5 _ _ _ h))⟩
  have hY : W3.cell? ⟨w.heap.size + 1, 0, none⟩ = some (.slice p2 y.path.length c2) ∧ W3.cell? ⟨w.heap.size + 1, 1, none⟩ = some (.string y.id) ∧ W3.cell? ⟨w.heap.size + 1, 2, none⟩ = some (.string y.title) ∧ W3.cell? ⟨w.heap.size + 1, 3, none⟩ = some (.string y.link) ∧ W3.cell? ⟨w.heap.size + 1, 4, none⟩ = some (.int .i64 y.upd) ∧ W3.cell? ⟨w.heap.size + 1, 5, none⟩ = some (.slice q2 y.ents.length d2) := by
    have h := heap_alloc_new (w.alloc (.cells #[.slice p1 x.path.length c1, .string x.id, .string x.title, .string x.link, .int .i64 x.upd, .slice q1 x.ents.length d1] 35)) (.cells #[.slice p2 y.path.length c2, .string y.id, .string y.title, .string y.link, .int .i64 y.upd, .slice q2 y.ents.length d2] 35)
    have hk2 := ((Below.refl _ ((w.alloc (.cells #[.slice p1 x.path.length c1, .string x.id, .string x.title, .string x.link, .int .i64 x.upd, .slice q1 x.ents.length d1] 35)).alloc (.cells #[.slice p2 y.path.length c2, .string y.id, .string y.title, .string y.link, .int .i64 y.upd, .slice q2 y.ents.length d2] 35))).alloc (Nat.le_refl _) (.cells #[.slice none 0 0, .string ⟨#[]⟩, .string ⟨#[]⟩, .string ⟨#[]⟩, .int .i64 0, .slice none 0 0] 35))
    rw [World.size_alloc] at h
    rw [hW3]
    exact ⟨mcell hk2 (cell_of_row _ _ 0 _ _ _ h), mcell hk2 (cell_of_row _ _ 1 _ _ _ h), mcell hk2 (cell_of_row _ _ 2 _ _ _ h), mcell hk2 (cell_of_row _ _ 3 _ _ _ h), mcell hk2 (cell_of_row _ _ 4 _ _ _ h), mcell hk2 (cell_of_row _ _ 5 _ _ _ h)⟩
  have hR : MBlk W3 (w.heap.size + 2) #[.slice none 0 0, .string ⟨#[]⟩, .string ⟨#[]⟩, .string ⟨#[]⟩, .int .i64 0, .slice none 0 0] 35 := by
    have h := heap_alloc_new ((w.alloc (.cells #[.slice p1 x.path.length c1, .string x.id, .string x.title, .string x.link, .int .i64 x.upd, .slice q1 x.ents.length d1] 35)).alloc (.cells #[.slice p2 y.path.length c2, .string y.id, .string y.title, .string y.link, .int .i64 y.upd, .slice q2 y.ents.length d2] 35)) (.cells #[.slice none 0 0, .string ⟨#[]⟩, .string ⟨#[]⟩, .string ⟨#[]⟩, .int .i64 0, .slice none 0 0] 35)
    rw [World.size_alloc, World.size_alloc] at h
    rw [hW3]
    exact h
  have hSB : ∀ u1 u2 : World, Below u1.heap.size u1 u2 → ((u1.cell? ⟨w.heap.size, 0, none⟩ = some (.slice p1 x.path.length c1) ∧ u1.cell? ⟨w.heap.size, 1, none⟩ = some (.string x.id) ∧ u1.cell? ⟨w.heap.size, 2, none⟩ = some (.string x.title) ∧ u1.cell? ⟨w.heap.size, 3, none⟩ = some (.string x.link) ∧ u1.cell? ⟨w.heap.size, 4, none⟩ = some (.int .i64 x.upd) ∧ u1.cell? ⟨w.heap.size, 5, none⟩ = some (.slice q1 x.ents.length d1)) ∧ (u1.cell? ⟨w.heap.size + 1, 0, none⟩ = some (.slice p2 y.path.length c2) ∧ u1.cell? ⟨w.heap.size + 1, 1, none⟩ = some (.string y.id) ∧ u1.cell? ⟨w.heap.size + 1, 2, none⟩ = some (.string y.title) ∧ u1.cell? ⟨w.heap.size + 1, 3, none⟩ = some (.string y.link) ∧ u1.cell? ⟨w.heap.size + 1, 4, none⟩ = some (.int .i64 y.upd) ∧ u1.cell? ⟨w.heap.size + 1, 5, none⟩ = some (.slice q2 y.ents.length d2))) → ((u2.cell? ⟨w.heap.size, 0, none⟩ = some (.slice p1 x.path.length c1) ∧ u2.cell? ⟨w.heap.size, 1, none⟩ = some (.string x.id) ∧ u2.cell? ⟨w.heap.size, 2, none⟩ = some (.string x.title) ∧ u2.cell? ⟨w.heap.size, 3, none⟩ = some (.string x.link) ∧ u2.cell? ⟨w.heap.size, 4, none⟩ = some (.int .i64 x.upd) ∧ u2.cell? ⟨w.heap.size, 5, none⟩ = some (.slice q1 x.ents.length d1)) ∧ (u2.cell? ⟨w.heap.size + 1, 0, none⟩ = some (.slice p2 y.path.length c2) ∧ u2.cell? ⟨w.heap.size + 1, 1, none⟩ = some (.string y.id) ∧ u2.cell? ⟨w.heap.size + 1, 2, none⟩ = some (.string y.title) ∧ u2.cell? ⟨w.heap.size + 1, 3, none⟩ = some (.string y.link) ∧ u2.cell? ⟨w.heap.size + 1, 4, none⟩ = some (.int .i64 y.upd) ∧ u2.cell? ⟨w.heap.size + 1, 5, none⟩ = some (.slice q2 y.ents.length d2))) := fun u1 u2 hb h => by
    obtain ⟨⟨z0, z1, z2, z3, z4, z5⟩, ⟨z6, z7, z8, z9, z10, z11⟩⟩ := h
    exact ⟨⟨mcell hb z0, mcell hb z1, mcell hb z2, mcell hb z3, mcell hb z4, mcell hb z5⟩, ⟨mcell hb z6, mcell hb z7, mcell hb z8, mcell hb z9, mcell hb z10, mcell hb z11⟩⟩
  have hfin : ∀ wx : World, Below W3.heap.size W3 wx → MBlk wx (w.heap.size + 2) #[.slice none 0 0, .string ⟨#[]⟩, .string ⟨#[]⟩, .string ⟨#[]⟩, .int .i64 0, .slice none 0 0] 35 ∧ ((wx.cell? ⟨w.heap.size, 0, none⟩ = some (.slice p1 x.path.length c1) ∧ wx.cell? ⟨w.heap.size, 1, none⟩ = some (.string x.id) ∧ wx.cell? ⟨w.heap.size, 2, none⟩ = some (.string x.title) ∧ wx.cell? ⟨w.heap.size, 3, none⟩ = some (.string x.link) ∧ wx.cell? ⟨w.heap.size, 4, none⟩ = some (.int .i64 x.upd) ∧ wx.cell? ⟨w.heap.size, 5, none⟩ = some (.slice q1 x.ents.length d1)) ∧ (wx.cell? ⟨w.heap.size + 1, 0, none⟩ = some (.slice p2 y.path.length c2) ∧ wx.cell? ⟨w.heap.size + 1, 1, none⟩ = some (.string y.id) ∧ wx.cell? ⟨w.heap.size + 1, 2, none⟩ = some (.string y.title) ∧ wx.cell? ⟨w.heap.size + 1, 3, none⟩ = some (.string y.link) ∧ wx.cell? ⟨w.heap.size + 1, 4, none⟩ = some (.int .i64 y.upd) ∧ wx.cell? ⟨w.heap.size + 1, 5, none⟩ = some (.slice q2 y.ents.length d2))) ∧ Below w.heap.size w wx := fun wx hb => ⟨hR.more hb, hSB _ _ hb ⟨hX, hY⟩, hB.trans (hb.mono hB.size)⟩
  have hset : ∀ (wx : World) (v0 v1 v2 v3 v4 v5 : Value), Below w.heap.size w wx → Below w.heap.size w ((((((wx.setCell ⟨w.heap.size + 2, 0, none⟩ v0).setCell ⟨w.heap.size + 2, 1, none⟩ v1).setCell ⟨w.heap.size + 2, 2, none⟩ v2).setCell ⟨w.heap.size + 2, 3, none⟩ v3).setCell ⟨w.heap.size + 2, 4, none⟩ v4).setCell ⟨w.heap.size + 2, 5, none⟩ v5) := fun wx v0 v1 v2 v3 v4 v5 hb => ((((((hb.setCell (p := ⟨w.heap.size + 2, 0, none⟩) (by show _ ≤ w.heap.size + 2; omega) _).setCell (p := ⟨w.heap.size + 2, 1, none⟩) (by show _ ≤ w.heap.size + 2; omega) _).setCell (p := ⟨w.heap.size + 2, 2, none⟩) (by show _ ≤ w.heap.size + 2; omega) _).setCell (p := ⟨w.heap.size + 2, 3, none⟩) (by show _ ≤ w.heap.size + 2; omega) _).setCell (p := ⟨w.heap.size + 2, 4, none⟩) (by show _ ≤ w.heap.size + 2; omega) _).setCell (p := ⟨w.heap.size + 2, 5, none⟩) (by show _ ≤ w.heap.size + 2; omega) _)
  have cA1 := fun wx => mc_updF x.id x.title x.link x.upd wx p1 x.path.length c1 q1 x.ents.length d1
  have cA2 := fun wx => mc_updF y.id y.title y.link y.upd wx p2 y.path.length c2 q2 y.ents.length d2
  have cI := fun wx => mc_int x.upd y.upd wx
  have cS := fun wx => mc_string (ofBytes KX) (ofBytes KY) wx
  rw [show cmpS (ofBytes KX) (ofBytes KY) = cmpL KX KY by unfold cmpS; rw [ofBytes_list, ofBytes_list]] at cS
  have HS := Lib.hid hset
  have HF := Lib.hid hfin
  have HB := Lib.hid hB
  have K1 := Lib.hid k1
  have K2 := Lib.hid k2
  have hS0 : (W3.drew.cell? ⟨w.heap.size, 0, none⟩ = some (.slice p1 x.path.length c1) ∧ W3.drew.cell? ⟨w.heap.size, 1, none⟩ = some (.string x.id) ∧ W3.drew.cell? ⟨w.heap.size, 2, none⟩ = some (.string x.title) ∧ W3.drew.cell? ⟨w.heap.size, 3, none⟩ = some (.string x.link) ∧ W3.drew.cell? ⟨w.heap.size, 4, none⟩ = some (.int .i64 x.upd) ∧ W3.drew.cell? ⟨w.heap.size, 5, none⟩ = some (.slice q1 x.ents.length d1)) ∧ (W3.drew.cell? ⟨w.heap.size + 1, 0, none⟩ = some (.slice p2 y.path.length c2) ∧ W3.drew.cell? ⟨w.heap.size + 1, 1, none⟩ = some (.string y.id) ∧ W3.drew.cell? ⟨w.heap.size + 1, 2, none⟩ = some (.string y.title) ∧ W3.drew.cell? ⟨w.heap.size + 1, 3, none⟩ = some (.string y.link) ∧ W3.drew.cell? ⟨w.heap.size + 1, 4, none⟩ = some (.int .i64 y.upd) ∧ W3.drew.cell? ⟨w.heap.size + 1, 5, none⟩ = some (.slice q2 y.ents.length d2)) := ⟨hX, hY⟩
  have hrf := (Below.refl W3.heap.size W3).drew
  generalize ofBytes KX = kx at *
  generalize ofBytes KY = ky at *
  generalize cmpL KX KY = C at *
  generalize cmpU y.upd x.upd = U at *
  obtain ⟨e0, e1, e2, e3, e4, e5⟩ := hX
  obtain ⟨f0, f1, f2, f3, f4, f5⟩ := hY
  clear hB hfin hset hR k1 k2
  by_cases hU : U = 0
  case neg =>
    rw [show lexI U C = U by unfold lexI; rw [if_neg hU]]
    clear cS K1 K2
    by_cases hn : U < 0
    · rw [if_pos hn]
      go_enter Tryz.func95, Tryz.ntmps95
      go_upto_region 1 with fail
      simp only [← hW3]
      clear hW3 e0 e1 e2 e3 e4 e5 f0 f1 f2 f3 f4 f5
      go_wp2
      refine wp_region_late (S := fun w' => (w'.cell? ⟨w.heap.size, 0, none⟩ = some (.slice p1 x.path.length c1) ∧ w'.cell? ⟨w.heap.size, 1, none⟩ = some (.string x.id) ∧ w'.cell? ⟨w.heap.size, 2, none⟩ = some (.string x.title) ∧ w'.cell? ⟨w.heap.size, 3, none⟩ = some (.string x.link) ∧ w'.cell? ⟨w.heap.size, 4, none⟩ = some (.int .i64 x.upd) ∧ w'.cell? ⟨w.heap.size, 5, none⟩ = some (.slice q1 x.ents.length d1)) ∧ (w'.cell? ⟨w.heap.size + 1, 0, none⟩ = some (.slice p2 y.path.length c2) ∧ w'.cell? ⟨w.heap.size + 1, 1, none⟩ = some (.string y.id) ∧ w'.cell? ⟨w.heap.size + 1, 2, none⟩ = some (.string y.title) ∧ w'.cell? ⟨w.heap.size + 1, 3, none⟩ = some (.string y.link) ∧ w'.cell? ⟨w.heap.size + 1, 4, none⟩ = some (.int .i64 y.upd) ∧ w'.cell? ⟨w.heap.size + 1, 5, none⟩ = some (.slice q2 y.ents.length d2))) (D := []) (by kernel_rfl) ?_
      refine anyL_take (i := 0) (oi := { dst := some 10, op := Go.Op.move (Go.Operand.tmp 2), type := 128, pos := "model.go:63", after := #[], guard := none }) (v := ?_) rfl (by decide) (by kernel_rfl) (by kernel_rfl) (by kernel_rfl) (by kernel_rfl) (fun _ _ _ h => h) (Or.inl ⟨by rfl, ?_⟩) hS0 ?_
      rotate_left
      · intro wz hSz
        skip
        go_simp
        (try with_reducible rfl)
      try simp only [Act.put, List.setIfInBounds_toArray, List.set_cons_zero, List.set_cons_succ]
      refine anyL_take (i := 1) (oi := { dst := some 11, op := Go.Op.load 35 (Go.Operand.tmp 4), type := 35, pos := "model.go:63", after := #[], guard := none }) (v := ?_) rfl (by decide) (by kernel_rfl) (by kernel_rfl) (by kernel_rfl) (by kernel_rfl) (fun _ _ _ h => h) (Or.inl ⟨by rfl, ?_⟩) hS0 ?_
      rotate_left
      · intro wz hSz
        obtain ⟨⟨z0, z1, z2, z3, z4, z5⟩, ⟨z6, z7, z8, z9, z10, z11⟩⟩ := hSz
        go_simp
        (try with_reducible rfl)
      try simp only [Act.put, List.setIfInBounds_toArray, List.set_cons_zero, List.set_cons_succ]
      refine anyL_take (i := 3) (oi := { dst := some 13, op := Go.Op.move (Go.Operand.tmp 2), type := 128, pos := "model.go:63", after := #[], guard := none }) (v := ?_) rfl (by decide) (by kernel_rfl) (by kernel_rfl) (by kernel_rfl) (by kernel_rfl) (fun _ _ _ h => h) (Or.inl ⟨by rfl, ?_⟩) hS0 ?_
      rotate_left
      · intro wz hSz
        skip
        go_simp
        (try with_reducible rfl)
      try simp only [Act.put, List.setIfInBounds_toArray, List.set_cons_zero, List.set_cons_succ]
      refine anyL_take (i := 4) (oi := { dst := some 14, op := Go.Op.load 35 (Go.Operand.tmp 5), type := 35, pos := "model.go:63", after := #[], guard := none }) (v := ?_) rfl (by decide) (by kernel_rfl) (by kernel_rfl) (by kernel_rfl) (by kernel_rfl) (fun _ _ _ h => h) (Or.inl ⟨by rfl, ?_⟩) hS0 ?_
      rotate_left
      · intro wz hSz
        obtain ⟨⟨z0, z1, z2, z3, z4, z5⟩, ⟨z6, z7, z8, z9, z10, z11⟩⟩ := hSz
        go_simp
        (try with_reducible rfl)
      try simp only [Act.put, List.setIfInBounds_toArray, List.set_cons_zero, List.set_cons_succ]
      refine anyL_ready (rs := [2]) (by kernel_rfl) (by simp) ?_
      refine AllL.cons (o := { dst := some 12, op := Go.Op.call { callee := Go.Callee.value (Go.Operand.tmp 10), args := #[Go.Operand.tmp 11], argTypes := #[35] }, type := 2, pos := "model.go:63", after := #[{ on := 0, ground := Go.Ground.data }, { on := 1, ground := Go.Ground.data }], guard := none }) rfl (fun K' hK => ?_) AllL.nil
      rw [if_pos (by rfl)]
      go_simp
      go_at_call 96
      refine (cA1 _).mono ?_
      rintro e1 w4 ⟨rfl, b4⟩
      have S4 := hSB _ _ b4 hS0
      refine hK _ _ S4 ?_
      clear hK K'
      try simp only [Act.put, List.setIfInBounds_toArray, List.set_cons_zero, List.set_cons_succ]
      refine anyL_ready (rs := [5]) (by kernel_rfl) (by simp) ?_
      refine AllL.cons (o := { dst := some 15, op := Go.Op.call { callee := Go.Callee.value (Go.Operand.tmp 13), args := #[Go.Operand.tmp 14], argTypes := #[35] }, type := 2, pos := "model.go:63", after := #[{ on := 3, ground := Go.Ground.data }, { on := 4, ground := Go.Ground.data }, { on := 2, ground := Go.Ground.chain }], guard := none }) rfl (fun K' hK => ?_) AllL.nil
      rw [if_pos (by rfl)]
      go_simp
      go_at_call 96
      refine (cA2 _).mono ?_
      rintro e1 w5 ⟨rfl, b5⟩
      have S5 := hSB _ _ b5 S4
      refine hK _ _ S5 ?_
      clear hK K'
      try simp only [Act.put, List.setIfInBounds_toArray, List.set_cons_zero, List.set_cons_succ]
      refine anyL_ready (rs := [6]) (by kernel_rfl) (by simp) ?_
      refine AllL.cons (o := { dst := some 16, op := Go.Op.call { callee := Go.Callee.value (Go.Operand.func 75), args := #[Go.Operand.tmp 12, Go.Operand.tmp 15], argTypes := #[2, 2] }, type := 3, pos := "model.go:63", after := #[{ on := 2, ground := Go.Ground.data }, { on := 5, ground := Go.Ground.data }, { on := 5, ground := Go.Ground.chain }], guard := none }) rfl (fun K' hK => ?_) AllL.nil
      rw [if_pos (by rfl)]
      go_simp
      go_at_call 75
      refine (cI _).mono ?_
      rintro e6 w9 ⟨rfl, rfl⟩
      refine hK _ _ S5 ?_
      clear hK K'
      try simp only [Act.put, List.setIfInBounds_toArray, List.set_cons_zero, List.set_cons_succ]
      refine anyL_take (i := 7) (oi := { dst := some 9, op := Go.Op.assign (Go.Operand.tmp 16), type := 3, pos := "model.go:63", after := #[{ on := 6, ground := Go.Ground.data }, { on := 6, ground := Go.Ground.chain }, { on := 0, ground := Go.Ground.phase }, { on := 1, ground := Go.Ground.phase }, { on := 2, ground := Go.Ground.phase }, { on := 3, ground := Go.Ground.phase }, { on := 4, ground := Go.Ground.phase }, { on := 5, ground := Go.Ground.phase }, { on := 6, ground := Go.Ground.phase }], guard := none }) (v := ?_) rfl (by decide) (by kernel_rfl) (by kernel_rfl) (by kernel_rfl) (by kernel_rfl) (fun _ _ _ h => h) (Or.inl ⟨by rfl, ?_⟩) S5 ?_
      rotate_left
      · intro wz hSz
        skip
        go_simp
        (try with_reducible rfl)
      try simp only [Act.put, List.setIfInBounds_toArray, List.set_cons_zero, List.set_cons_succ]
      refine anyL_done (by kernel_rfl) ?_ _
      have b35 : Below W3.heap.size W3 w5 := hrf.trans (b4.trans (b5.mono b4.size))
      clear hS0 S4 S5 hSB b4 b5 hrf
      obtain ⟨hR, ⟨⟨e0, e1, e2, e3, e4, e5⟩, ⟨f0, f1, f2, f3, f4, f5⟩⟩, hB⟩ := HF.out _ b35
      have r0 := hR.cell 0
      have r1 := hR.cell 1
      have r2 := hR.cell 2
      have r3 := hR.cell 3
      have r4 := hR.cell 4
      have r5 := hR.cell 5
      simp only [List.getElem?_toArray, List.getElem?_cons_zero, List.getElem?_cons_succ] at r0 r1 r2 r3 r4 r5
      have t0 := hR.fr 0
      have t1 := hR.fr 1
      have t2 := hR.fr 2
      have t3 := hR.fr 3
      have t4 := hR.fr 4
      have t5 := hR.fr 5
      have HBB := Lib.hid (HS.out _ (.slice p2 y.path.length c2) (.string y.id) (.string y.title) (.string y.link) (.int .i64 y.upd) (.slice q2 y.ents.length d2) hB)
      clear hR hB HF HS
      go_wp2
      exact bodyPost_ret (v := .agg #[.slice p2 y.path.length c2, .string y.id, .string y.title, .string y.link, .int .i64 y.upd, .slice q2 y.ents.length d2]) (by simp [results, Tryz.results95, go_sem, mset_same, r0, r1, r2, r3, r4, r5]) rfl ⟨rfl, HBB.out⟩
    · rw [if_neg hn]
      go_enter Tryz.func95, Tryz.ntmps95
      go_upto_region 1 with fail
      simp only [← hW3]
      clear hW3 e0 e1 e2 e3 e4 e5 f0 f1 f2 f3 f4 f5
      go_wp2
      refine wp_region_late (S := fun w' => (w'.cell? ⟨w.heap.size, 0, none⟩ = some (.slice p1 x.path.length c1) ∧ w'.cell? ⟨w.heap.size, 1, none⟩ = some (.string x.id) ∧ w'.cell? ⟨w.heap.size, 2, none⟩ = some (.string x.title) ∧ w'.cell? ⟨w.heap.size, 3, none⟩ = some (.string x.link) ∧ w'.cell? ⟨w.heap.size, 4, none⟩ = some (.int .i64 x.upd) ∧ w'.cell? ⟨w.heap.size, 5, none⟩ = some (.slice q1 x.ents.length d1)) ∧ (w'.cell? ⟨w.heap.size + 1, 0, none⟩ = some (.slice p2 y.path.length c2) ∧ w'.cell? ⟨w.heap.size + 1, 1, none⟩ = some (.string y.id) ∧ w'.cell? ⟨w.heap.size + 1, 2, none⟩ = some (.string y.title) ∧ w'.cell? ⟨w.heap.size + 1, 3, none⟩ = some (.string y.link) ∧ w'.cell? ⟨w.heap.size + 1, 4, none⟩ = some (.int .i64 y.upd) ∧ w'.cell? ⟨w.heap.size + 1, 5, none⟩ = some (.slice q2 y.ents.length d2))) (D := []) (by kernel_rfl) ?_
      refine anyL_take (i := 0) (oi := { dst := some 10, op := Go.Op.move (Go.Operand.tmp 2), type := 128, pos := "model.go:63", after := #[], guard := none }) (v := ?_) rfl (by decide) (by kernel_rfl) (by kernel_rfl) (by kernel_rfl) (by kernel_rfl) (fun _ _ _ h => h) (Or.inl ⟨by rfl, ?_⟩) hS0 ?_
      rotate_left
      · intro wz hSz
        skip
        go_simp
        (try with_reducible rfl)
      try simp only [Act.put, List.setIfInBounds_toArray, List.set_cons_zero, List.set_cons_succ]
      refine anyL_take (i := 1) (oi := { dst := some 11, op := Go.Op.load 35 (Go.Operand.tmp 4), type := 35, pos := "model.go:63", after := #[], guard := none }) (v := ?_) rfl (by decide) (by kernel_rfl) (by kernel_rfl) (by kernel_rfl) (by kernel_rfl) (fun _ _ _ h => h) (Or.inl ⟨by rfl, ?_⟩) hS0 ?_
      rotate_left
      · intro wz hSz
        obtain ⟨⟨z0, z1, z2, z3, z4, z5⟩, ⟨z6, z7, z8, z9, z10, z11⟩⟩ := hSz
        go_simp
        (try with_reducible rfl)
      try simp only [Act.put, List.setIfInBounds_toArray, List.set_cons_zero, List.set_cons_succ]
      refine anyL_take (i := 3) (oi := { dst := some 13, op := Go.Op.move (Go.Operand.tmp 2), type := 128, pos := "model.go:63", after := #[], guard := none }) (v := ?_) rfl (by decide) (by kernel_rfl) (by kernel_rfl) (by kernel_rfl) (by kernel_rfl) (fun _ _ _ h => h) (Or.inl ⟨by rfl, ?_⟩) hS0 ?_
      rotate_left
      · intro wz hSz
        skip
        go_simp
        (try with_reducible rfl)
      try simp only [Act.put, List.setIfInBounds_toArray, List.set_cons_zero, List.set_cons_succ]
      refine anyL_take (i := 4) (oi := { dst := some 14, op := Go.Op.load 35 (Go.Operand.tmp 5), type := 35, pos := "model.go:63", after := #[], guard := none }) (v := ?_) rfl (by decide) (by kernel_rfl) (by kernel_rfl) (by kernel_rfl) (by kernel_rfl) (fun _ _ _ h => h) (Or.inl ⟨by rfl, ?_⟩) hS0 ?_
      rotate_left
      · intro wz hSz
        obtain ⟨⟨z0, z1, z2, z3, z4, z5⟩, ⟨z6, z7, z8, z9, z10, z11⟩⟩ := hSz
        go_simp
        (try with_reducible rfl)
      try simp only [Act.put, List.setIfInBounds_toArray, List.set_cons_zero, List.set_cons_succ]
      refine anyL_ready (rs := [2]) (by kernel_rfl) (by simp) ?_
      refine AllL.cons (o := { dst := some 12, op := Go.Op.call { callee := Go.Callee.value (Go.Operand.tmp 10), args := #[Go.Operand.tmp 11], argTypes := #[35] }, type := 2, pos := "model.go:63", after := #[{ on := 0, ground := Go.Ground.data }, { on := 1, ground := Go.Ground.data }], guard := none }) rfl (fun K' hK => ?_) AllL.nil
      rw [if_pos (by rfl)]
      go_simp
      go_at_call 96
      refine (cA1 _).mono ?_
      rintro e1 w4 ⟨rfl, b4⟩
      have S4 := hSB _ _ b4 hS0
      refine hK _ _ S4 ?_
      clear hK K'
      try simp only [Act.put, List.setIfInBounds_toArray, List.set_cons_zero, List.set_cons_succ]
      refine anyL_ready (rs := [5]) (by kernel_rfl) (by simp) ?_
      refine AllL.cons (o := { dst := some 15, op := Go.Op.call { callee := Go.Callee.value (Go.Operand.tmp 13), args := #[Go.Operand.tmp 14], argTypes := #[35] }, type := 2, pos := "model.go:63", after := #[{ on := 3, ground := Go.Ground.data }, { on := 4, ground := Go.Ground.data }, { on := 2, ground := Go.Ground.chain }], guard := none }) rfl (fun K' hK => ?_) AllL.nil
      rw [if_pos (by rfl)]
      go_simp
      go_at_call 96
      refine (cA2 _).mono ?_
      rintro e1 w5 ⟨rfl, b5⟩
      have S5 := hSB _ _ b5 S4
      refine hK _ _ S5 ?_
      clear hK K'
      try simp only [Act.put, List.setIfInBounds_toArray, List.set_cons_zero, List.set_cons_succ]
      refine anyL_ready (rs := [6]) (by kernel_rfl) (by simp) ?_
      refine AllL.cons (o := { dst := some 16, op := Go.Op.call { callee := Go.Callee.value (Go.Operand.func 75), args := #[Go.Operand.tmp 12, Go.Operand.tmp 15], argTypes := #[2, 2] }, type := 3, pos := "model.go:63", after := #[{ on := 2, ground := Go.Ground.data }, { on := 5, ground := Go.Ground.data }, { on := 5, ground := Go.Ground.chain }], guard := none }) rfl (fun K' hK => ?_) AllL.nil
      rw [if_pos (by rfl)]
      go_simp
      go_at_call 75
      refine (cI _).mono ?_
      rintro e6 w9 ⟨rfl, rfl⟩
      refine hK _ _ S5 ?_
      clear hK K'
      try simp only [Act.put, List.setIfInBounds_toArray, List.set_cons_zero, List.set_cons_succ]
      refine anyL_take (i := 7) (oi := { dst := some 9, op := Go.Op.assign (Go.Operand.tmp 16), type := 3, pos := "model.go:63", after := #[{ on := 6, ground := Go.Ground.data }, { on := 6, ground := Go.Ground.chain }, { on := 0, ground := Go.Ground.phase }, { on := 1, ground := Go.Ground.phase }, { on := 2, ground := Go.Ground.phase }, { on := 3, ground := Go.Ground.phase }, { on := 4, ground := Go.Ground.phase }, { on := 5, ground := Go.Ground.phase }, { on := 6, ground := Go.Ground.phase }], guard := none }) (v := ?_) rfl (by decide) (by kernel_rfl) (by kernel_rfl) (by kernel_rfl) (by kernel_rfl) (fun _ _ _ h => h) (Or.inl ⟨by rfl, ?_⟩) S5 ?_
      rotate_left
      · intro wz hSz
        skip
        go_simp
        (try with_reducible rfl)
      try simp only [Act.put, List.setIfInBounds_toArray, List.set_cons_zero, List.set_cons_succ]
      refine anyL_done (by kernel_rfl) ?_ _
      have b35 : Below W3.heap.size W3 w5 := hrf.trans (b4.trans (b5.mono b4.size))
      clear hS0 S4 S5 hSB b4 b5 hrf
      obtain ⟨hR, ⟨⟨e0, e1, e2, e3, e4, e5⟩, ⟨f0, f1, f2, f3, f4, f5⟩⟩, hB⟩ := HF.out _ b35
      have r0 := hR.cell 0
      have r1 := hR.cell 1
      have r2 := hR.cell 2
      have r3 := hR.cell 3
      have r4 := hR.cell 4
      have r5 := hR.cell 5
      simp only [List.getElem?_toArray, List.getElem?_cons_zero, List.getElem?_cons_succ] at r0 r1 r2 r3 r4 r5
      have t0 := hR.fr 0
      have t1 := hR.fr 1
      have t2 := hR.fr 2
      have t3 := hR.fr 3
      have t4 := hR.fr 4
      have t5 := hR.fr 5
      have HBB := Lib.hid (HS.out _ (.slice p1 x.path.length c1) (.string x.id) (.string x.title) (.string x.link) (.int .i64 x.upd) (.slice q1 x.ents.length d1) hB)
      clear hR hB HF HS
      go_wp2
      exact bodyPost_ret (v := .agg #[.slice p1 x.path.length c1, .string x.id, .string x.title, .string x.link, .int .i64 x.upd, .slice q1 x.ents.length d1]) (by simp [results, Tryz.results95, go_sem, mset_same, r0, r1, r2, r3, r4, r5]) rfl ⟨rfl, HBB.out⟩
  subst hU
  rw [show lexI 0 C = C from rfl]
  by_cases hn : C < 0
  · rw [if_pos hn]
    go_enter Tryz.func95, Tryz.ntmps95
    go_upto_region 1 with fail
    simp only [← hW3]
    clear hW3 e0 e1 e2 e3 e4 e5 f0 f1 f2 f3 f4 f5
    go_wp2
    refine wp_region_late (S := fun w' => (w'.cell? ⟨w.heap.size, 0, none⟩ = some (.slice p1 x.path.length c1) ∧ w'.cell? ⟨w.heap.size, 1, none⟩ = some (.string x.id) ∧ w'.cell? ⟨w.heap.size, 2, none⟩ = some (.string x.title) ∧ w'.cell? ⟨w.heap.size, 3, none⟩ = some (.string x.link) ∧ w'.cell? ⟨w.heap.size, 4, none⟩ = some (.int .i64 x.upd) ∧ w'.cell? ⟨w.heap.size, 5, none⟩ = some (.slice q1 x.ents.length d1)) ∧ (w'.cell? ⟨w.heap.size + 1, 0, none⟩ = some (.slice p2 y.path.length c2) ∧ w'.cell? ⟨w.heap.size + 1, 1, none⟩ = some (.string y.id) ∧ w'.cell? ⟨w.heap.size + 1, 2, none⟩ = some (.string y.title) ∧ w'.cell? ⟨w.heap.size + 1, 3, none⟩ = some (.string y.link) ∧ w'.cell? ⟨w.heap.size + 1, 4, none⟩ = some (.int .i64 y.upd) ∧ w'.cell? ⟨w.heap.size + 1, 5, none⟩ = some (.slice q2 y.ents.length d2))) (D := []) (by kernel_rfl) ?_
    refine anyL_take (i := 0) (oi := { dst := some 10, op := Go.Op.move (Go.Operand.tmp 2), type := 128, pos := "model.go:63", after := #[], guard := none }) (v := ?_) rfl (by decide) (by kernel_rfl) (by kernel_rfl) (by kernel_rfl) (by kernel_rfl) (fun _ _ _ h => h) (Or.inl ⟨by rfl, ?_⟩) hS0 ?_
    rotate_left
    · intro wz hSz
      skip
      go_simp
      (try with_reducible rfl)
    try simp only [Act.put, List.setIfInBounds_toArray, List.set_cons_zero, List.set_cons_succ]
    refine anyL_take (i := 1) (oi := { dst := some 11, op := Go.Op.load 35 (Go.Operand.tmp 4), type := 35, pos := "model.go:63", after := #[], guard := none }) (v := ?_) rfl (by decide) (by kernel_rfl) (by kernel_rfl) (by kernel_rfl) (by kernel_rfl) (fun _ _ _ h => h) (Or.inl ⟨by rfl, ?_⟩) hS0 ?_
    rotate_left
    · intro wz hSz
      obtain ⟨⟨z0, z1, z2, z3, z4, z5⟩, ⟨z6, z7, z8, z9, z10, z11⟩⟩ := hSz
      go_simp
      (try with_reducible rfl)
    try simp only [Act.put, List.setIfInBounds_toArray, List.set_cons_zero, List.set_cons_succ]
    refine anyL_take (i := 3) (oi := { dst := some 13, op := Go.Op.move (Go.Operand.tmp 2), type := 128, pos := "model.go:63", after := #[], guard := none }) (v := ?_) rfl (by decide) (by kernel_rfl) (by kernel_rfl) (by kernel_rfl) (by kernel_rfl) (fun _ _ _ h => h) (Or.inl ⟨by rfl, ?_⟩) hS0 ?_
    rotate_left
    · intro wz hSz
      skip
      go_simp
      (try with_reducible rfl)
    try simp only [Act.put, List.setIfInBounds_toArray, List.set_cons_zero, List.set_cons_succ]
    refine anyL_take (i := 4) (oi := { dst := some 14, op := Go.Op.load 35 (Go.Operand.tmp 5), type := 35, pos := "model.go:63", after := #[], guard := none }) (v := ?_) rfl (by decide) (by kernel_rfl) (by kernel_rfl) (by kernel_rfl) (by kernel_rfl) (fun _ _ _ h => h) (Or.inl ⟨by rfl, ?_⟩) hS0 ?_
    rotate_left
    · intro wz hSz
      obtain ⟨⟨z0, z1, z2, z3, z4, z5⟩, ⟨z6, z7, z8, z9, z10, z11⟩⟩ := hSz
      go_simp
      (try with_reducible rfl)
    try simp only [Act.put, List.setIfInBounds_toArray, List.set_cons_zero, List.set_cons_succ]
    refine anyL_ready (rs := [2]) (by kernel_rfl) (by simp) ?_
    refine AllL.cons (o := { dst := some 12, op := Go.Op.call { callee := Go.Callee.value (Go.Operand.tmp 10), args := #[Go.Operand.tmp 11], argTypes := #[35] }, type := 2, pos := "model.go:63", after := #[{ on := 0, ground := Go.Ground.data }, { on := 1, ground := Go.Ground.data }], guard := none }) rfl (fun K' hK => ?_) AllL.nil
    rw [if_pos (by rfl)]
    go_simp
    go_at_call 96
    refine (cA1 _).mono ?_
    rintro e1 w4 ⟨rfl, b4⟩
    have S4 := hSB _ _ b4 hS0
    refine hK _ _ S4 ?_
    clear hK K'
    try simp only [Act.put, List.setIfInBounds_toArray, List.set_cons_zero, List.set_cons_succ]
    refine anyL_ready (rs := [5]) (by kernel_rfl) (by simp) ?_
    refine AllL.cons (o := { dst := some 15, op := Go.Op.call { callee := Go.Callee.value (Go.Operand.tmp 13), args := #[Go.Operand.tmp 14], argTypes := #[35] }, type := 2, pos := "model.go:63", after := #[{ on := 3, ground := Go.Ground.data }, { on := 4, ground := Go.Ground.data }, { on := 2, ground := Go.Ground.chain }], guard := none }) rfl (fun K' hK => ?_) AllL.nil
    rw [if_pos (by rfl)]
    go_simp
    go_at_call 96
    refine (cA2 _).mono ?_
    rintro e1 w5 ⟨rfl, b5⟩
    have S5 := hSB _ _ b5 S4
    refine hK _ _ S5 ?_
    clear hK K'
    try simp only [Act.put, List.setIfInBounds_toArray, List.set_cons_zero, List.set_cons_succ]
    refine anyL_ready (rs := [6]) (by kernel_rfl) (by simp) ?_
    refine AllL.cons (o := { dst := some 16, op := Go.Op.call { callee := Go.Callee.value (Go.Operand.func 75), args := #[Go.Operand.tmp 12, Go.Operand.tmp 15], argTypes := #[2, 2] }, type := 3, pos := "model.go:63", after := #[{ on := 2, ground := Go.Ground.data }, { on := 5, ground := Go.Ground.data }, { on := 5, ground := Go.Ground.chain }], guard := none }) rfl (fun K' hK => ?_) AllL.nil
    rw [if_pos (by rfl)]
    go_simp
    go_at_call 75
    refine (cI _).mono ?_
    rintro e6 w9 ⟨rfl, rfl⟩
    refine hK _ _ S5 ?_
    clear hK K'
    try simp only [Act.put, List.setIfInBounds_toArray, List.set_cons_zero, List.set_cons_succ]
    refine anyL_take (i := 7) (oi := { dst := some 9, op := Go.Op.assign (Go.Operand.tmp 16), type := 3, pos := "model.go:63", after := #[{ on := 6, ground := Go.Ground.data }, { on := 6, ground := Go.Ground.chain }, { on := 0, ground := Go.Ground.phase }, { on := 1, ground := Go.Ground.phase }, { on := 2, ground := Go.Ground.phase }, { on := 3, ground := Go.Ground.phase }, { on := 4, ground := Go.Ground.phase }, { on := 5, ground := Go.Ground.phase }, { on := 6, ground := Go.Ground.phase }], guard := none }) (v := ?_) rfl (by decide) (by kernel_rfl) (by kernel_rfl) (by kernel_rfl) (by kernel_rfl) (fun _ _ _ h => h) (Or.inl ⟨by rfl, ?_⟩) S5 ?_
    rotate_left
    · intro wz hSz
      skip
      go_simp
      (try with_reducible rfl)
    try simp only [Act.put, List.setIfInBounds_toArray, List.set_cons_zero, List.set_cons_succ]
    refine anyL_done (by kernel_rfl) ?_ _
    have b35 : Below W3.heap.size W3 w5 := hrf.trans (b4.trans (b5.mono b4.size))
    have HB5 : Below w.heap.size w w5.drew := (HB.out.trans (b35.mono HB.out.size)).trans ((Below.refl _ _).drew)
    have k1 := K1.out _ HB5
    have hS5 : (w5.drew.cell? ⟨w.heap.size, 0, none⟩ = some (.slice p1 x.path.length c1) ∧ w5.drew.cell? ⟨w.heap.size, 1, none⟩ = some (.string x.id) ∧ w5.drew.cell? ⟨w.heap.size, 2, none⟩ = some (.string x.title) ∧ w5.drew.cell? ⟨w.heap.size, 3, none⟩ = some (.string x.link) ∧ w5.drew.cell? ⟨w.heap.size, 4, none⟩ = some (.int .i64 x.upd) ∧ w5.drew.cell? ⟨w.heap.size, 5, none⟩ = some (.slice q1 x.ents.length d1)) ∧ (w5.drew.cell? ⟨w.heap.size + 1, 0, none⟩ = some (.slice p2 y.path.length c2) ∧ w5.drew.cell? ⟨w.heap.size + 1, 1, none⟩ = some (.string y.id) ∧ w5.drew.cell? ⟨w.heap.size + 1, 2, none⟩ = some (.string y.title) ∧ w5.drew.cell? ⟨w.heap.size + 1, 3, none⟩ = some (.string y.link) ∧ w5.drew.cell? ⟨w.heap.size + 1, 4, none⟩ = some (.int .i64 y.upd) ∧ w5.drew.cell? ⟨w.heap.size + 1, 5, none⟩ = some (.slice q2 y.ents.length d2)) := S5
    clear hS0 S4 S5 b4 b5 hrf
    go_wp2
    refine wp_region_late (S := fun w' => (w'.cell? ⟨w.heap.size, 0, none⟩ = some (.slice p1 x.path.length c1) ∧ w'.cell? ⟨w.heap.size, 1, none⟩ = some (.string x.id) ∧ w'.cell? ⟨w.heap.size, 2, none⟩ = some (.string x.title) ∧ w'.cell? ⟨w.heap.size, 3, none⟩ = some (.string x.link) ∧ w'.cell? ⟨w.heap.size, 4, none⟩ = some (.int .i64 x.upd) ∧ w'.cell? ⟨w.heap.size, 5, none⟩ = some (.slice q1 x.ents.length d1)) ∧ (w'.cell? ⟨w.heap.size + 1, 0, none⟩ = some (.slice p2 y.path.length c2) ∧ w'.cell? ⟨w.heap.size + 1, 1, none⟩ = some (.string y.id) ∧ w'.cell? ⟨w.heap.size + 1, 2, none⟩ = some (.string y.title) ∧ w'.cell? ⟨w.heap.size + 1, 3, none⟩ = some (.string y.link) ∧ w'.cell? ⟨w.heap.size + 1, 4, none⟩ = some (.int .i64 y.upd) ∧ w'.cell? ⟨w.heap.size + 1, 5, none⟩ = some (.slice q2 y.ents.length d2))) (D := []) (by kernel_rfl) ?_
    refine anyL_take (i := 0) (oi := { dst := some 19, op := Go.Op.move (Go.Operand.tmp 3), type := 95, pos := "model.go:66", after := #[], guard := none }) (v := ?_) rfl (by decide) (by kernel_rfl) (by kernel_rfl) (by kernel_rfl) (by kernel_rfl) (fun _ _ _ h => h) (Or.inl ⟨by rfl, ?_⟩) hS5 ?_
    rotate_left
    · intro wz hSz
      skip
      go_simp
      (try with_reducible rfl)
    try simp only [Act.put, List.setIfInBounds_toArray, List.set_cons_zero, List.set_cons_succ]
    refine anyL_take (i := 1) (oi := { dst := some 20, op := Go.Op.load 35 (Go.Operand.tmp 4), type := 35, pos := "model.go:66", after := #[], guard := none }) (v := ?_) rfl (by decide) (by kernel_rfl) (by kernel_rfl) (by kernel_rfl) (by kernel_rfl) (fun _ _ _ h => h) (Or.inl ⟨by rfl, ?_⟩) hS5 ?_
    rotate_left
    · intro wz hSz
      obtain ⟨⟨z0, z1, z2, z3, z4, z5⟩, ⟨z6, z7, z8, z9, z10, z11⟩⟩ := hSz
      go_simp
      (try with_reducible rfl)
    try simp only [Act.put, List.setIfInBounds_toArray, List.set_cons_zero, List.set_cons_succ]
    refine anyL_take (i := 3) (oi := { dst := some 22, op := Go.Op.move (Go.Operand.tmp 3), type := 95, pos := "model.go:66", after := #[], guard := none }) (v := ?_) rfl (by decide) (by kernel_rfl) (by kernel_rfl) (by kernel_rfl) (by kernel_rfl) (fun _ _ _ h => h) (Or.inl ⟨by rfl, ?_⟩) hS5 ?_
    rotate_left
    · intro wz hSz
      skip
      go_simp
      (try with_reducible rfl)
    try simp only [Act.put, List.setIfInBounds_toArray, List.set_cons_zero, List.set_cons_succ]
    refine anyL_take (i := 4) (oi := { dst := some 23, op := Go.Op.load 35 (Go.Operand.tmp 5), type := 35, pos := "model.go:66", after := #[], guard := none }) (v := ?_) rfl (by decide) (by kernel_rfl) (by kernel_rfl) (by kernel_rfl) (by kernel_rfl) (fun _ _ _ h => h) (Or.inl ⟨by rfl, ?_⟩) hS5 ?_
    rotate_left
    · intro wz hSz
      obtain ⟨⟨z0, z1, z2, z3, z4, z5⟩, ⟨z6, z7, z8, z9, z10, z11⟩⟩ := hSz
      go_simp
      (try with_reducible rfl)
    try simp only [Act.put, List.setIfInBounds_toArray, List.set_cons_zero, List.set_cons_succ]
    refine anyL_ready (rs := [2]) (by kernel_rfl) (by simp) ?_
    refine AllL.cons (o := { dst := some 21, op := Go.Op.call { callee := Go.Callee.value (Go.Operand.tmp 19), args := #[Go.Operand.tmp 20], argTypes := #[35] }, type := 9, pos := "model.go:66", after := #[{ on := 0, ground := Go.Ground.data }, { on := 1, ground := Go.Ground.data }], guard := none }) rfl (fun K' hK => ?_) AllL.nil
    rw [if_pos (by rfl)]
    go_simp
    go_at_call 97
    refine k1.mono ?_
    rintro e1 w7 ⟨rfl, b7⟩
    have S7 := hSB _ _ b7 hS5
    refine hK _ _ S7 ?_
    clear hK K'
    have k2 := K2.out _ (HB5.trans (b7.mono HB5.size))
    clear HB5 k1
    try simp only [Act.put, List.setIfInBounds_toArray, List.set_cons_zero, List.set_cons_succ]
    refine anyL_ready (rs := [5]) (by kernel_rfl) (by simp) ?_
    refine AllL.cons (o := { dst := some 24, op := Go.Op.call { callee := Go.Callee.value (Go.Operand.tmp 22), args := #[Go.Operand.tmp 23], argTypes := #[35] }, type := 9, pos := "model.go:66", after := #[{ on := 3, ground := Go.Ground.data }, { on := 4, ground := Go.Ground.data }, { on := 2, ground := Go.Ground.chain }], guard := none }) rfl (fun K' hK => ?_) AllL.nil
    rw [if_pos (by rfl)]
    go_simp
    go_at_call 97
    refine k2.mono ?_
    rintro e1 w8 ⟨rfl, b8⟩
    have S8 := hSB _ _ b8 S7
    refine hK _ _ S8 ?_
    clear hK K'
    try simp only [Act.put, List.setIfInBounds_toArray, List.set_cons_zero, List.set_cons_succ]
    refine anyL_ready (rs := [6]) (by kernel_rfl) (by simp) ?_
    refine AllL.cons (o := { dst := some 25, op := Go.Op.call { callee := Go.Callee.value (Go.Operand.func 76), args := #[Go.Operand.tmp 21, Go.Operand.tmp 24], argTypes := #[9, 9] }, type := 3, pos := "model.go:66", after := #[{ on := 2, ground := Go.Ground.data }, { on := 5, ground := Go.Ground.data }, { on := 5, ground := Go.Ground.chain }], guard := none }) rfl (fun K' hK => ?_) AllL.nil
    rw [if_pos (by rfl)]
    go_simp
    go_at_call 76
    refine (cS _).mono ?_
    rintro e6 w9 ⟨rfl, rfl⟩
    refine hK _ _ S8 ?_
    clear hK K'
    try simp only [Act.put, List.setIfInBounds_toArray, List.set_cons_zero, List.set_cons_succ]
    refine anyL_take (i := 7) (oi := { dst := some 9, op := Go.Op.assign (Go.Operand.tmp 25), type := 3, pos := "model.go:66", after := #[{ on := 6, ground := Go.Ground.data }, { on := 6, ground := Go.Ground.chain }, { on := 0, ground := Go.Ground.phase }, { on := 1, ground := Go.Ground.phase }, { on := 2, ground := Go.Ground.phase }, { on := 3, ground := Go.Ground.phase }, { on := 4, ground := Go.Ground.phase }, { on := 5, ground := Go.Ground.phase }, { on := 6, ground := Go.Ground.phase }], guard := none }) (v := ?_) rfl (by decide) (by kernel_rfl) (by kernel_rfl) (by kernel_rfl) (by kernel_rfl) (fun _ _ _ h => h) (Or.inl ⟨by rfl, ?_⟩) S8 ?_
    rotate_left
    · intro wz hSz
      skip
      go_simp
      (try with_reducible rfl)
    try simp only [Act.put, List.setIfInBounds_toArray, List.set_cons_zero, List.set_cons_succ]
    refine anyL_done (by kernel_rfl) ?_ _
    have b38 : Below W3.heap.size W3 w8 := b35.trans (((Below.refl _ _).drew.trans (b7.trans (b8.mono b7.size))).mono b35.size)
    clear hS5 S7 S8 hSB b7 b8 b35 k2
    obtain ⟨hR, ⟨⟨e0, e1, e2, e3, e4, e5⟩, ⟨f0, f1, f2, f3, f4, f5⟩⟩, hB⟩ := HF.out _ b38
    have r0 := hR.cell 0
    have r1 := hR.cell 1
    have r2 := hR.cell 2
    have r3 := hR.cell 3
    have r4 := hR.cell 4
    have r5 := hR.cell 5
    simp only [List.getElem?_toArray, List.getElem?_cons_zero, List.getElem?_cons_succ] at r0 r1 r2 r3 r4 r5
    have t0 := hR.fr 0
    have t1 := hR.fr 1
    have t2 := hR.fr 2
    have t3 := hR.fr 3
    have t4 := hR.fr 4
    have t5 := hR.fr 5
    have HBB := Lib.hid (HS.out _ (.slice p2 y.path.length c2) (.string y.id) (.string y.title) (.string y.link) (.int .i64 y.upd) (.slice q2 y.ents.length d2) hB)
    clear hR hB HF HS
    go_wp2
    exact bodyPost_ret (v := .agg #[.slice p2 y.path.length c2, .string y.id, .string y.title, .string y.link, .int .i64 y.upd, .slice q2 y.ents.length d2]) (by simp [results, Tryz.results95, go_sem, mset_same, r0, r1, r2, r3, r4, r5]) rfl ⟨rfl, HBB.out⟩
  · rw [if_neg hn]
    go_enter Tryz.func95, Tryz.ntmps95
    go_upto_region 1 with fail
    simp only [← hW3]
    clear hW3 e0 e1 e2 e3 e4 e5 f0 f1 f2 f3 f4 f5
    go_wp2
    refine wp_region_late (S := fun w' => (w'.cell? ⟨w.heap.size, 0, none⟩ = some (.slice p1 x.path.length c1) ∧ w'.cell? ⟨w.heap.size, 1, none⟩ = some (.string x.id) ∧ w'.cell? ⟨w.heap.size, 2, none⟩ = some (.string x.title) ∧ w'.cell? ⟨w.heap.size, 3, none⟩ = some (.string x.link) ∧ w'.cell? ⟨w.heap.size, 4, none⟩ = some (.int .i64 x.upd) ∧ w'.cell? ⟨w.heap.size, 5, none⟩ = some (.slice q1 x.ents.length d1)) ∧ (w'.cell? ⟨w.heap.size + 1, 0, none⟩ = some (.slice p2 y.path.length c2) ∧ w'.cell? ⟨w.heap.size + 1, 1, none⟩ = some (.string y.id) ∧ w'.cell? ⟨w.heap.size + 1, 2, none⟩ = some (.string y.title) ∧ w'.cell? ⟨w.heap.size + 1, 3, none⟩ = some (.string y.link) ∧ w'.cell? ⟨w.heap.size + 1, 4, none⟩ = some (.int .i64 y.upd) ∧ w'.cell? ⟨w.heap.size + 1, 5, none⟩ = some (.slice q2 y.ents.length d2))) (D := []) (by kernel_rfl) ?_
    refine anyL_take (i := 0) (oi := { dst := some 10, op := Go.Op.move (Go.Operand.tmp 2), type := 128, pos := "model.go:63", after := #[], guard := none }) (v := ?_) rfl (by decide) (by kernel_rfl) (by kernel_rfl) (by kernel_rfl) (by kernel_rfl) (fun _ _ _ h => h) (Or.inl ⟨by rfl, ?_⟩) hS0 ?_
    rotate_left
    · intro wz hSz
      skip
      go_simp
      (try with_reducible rfl)
    try simp only [Act.put, List.setIfInBounds_toArray, List.set_cons_zero, List.set_cons_succ]
    refine anyL_take (i := 1) (oi := { dst := some 11, op := Go.Op.load 35 (Go.Operand.tmp 4), type := 35, pos := "model.go:63", after := #[], guard := none }) (v := ?_) rfl (by decide) (by kernel_rfl) (by kernel_rfl) (by kernel_rfl) (by kernel_rfl) (fun _ _ _ h => h) (Or.inl ⟨by rfl, ?_⟩) hS0 ?_
    rotate_left
    · intro wz hSz
      obtain ⟨⟨z0, z1, z2, z3, z4, z5⟩, ⟨z6, z7, z8, z9, z10, z11⟩⟩ := hSz
      go_simp
      (try with_reducible rfl)
    try simp only [Act.put, List.setIfInBounds_toArray, List.set_cons_zero, List.set_cons_succ]
    refine anyL_take (i := 3) (oi := { dst := some 13, op := Go.Op.move (Go.Operand.tmp 2), type := 128, pos := "model.go:63", after := #[], guard := none }) (v := ?_) rfl (by decide) (by kernel_rfl) (by kernel_rfl) (by kernel_rfl) (by kernel_rfl) (fun _ _ _ h => h) (Or.inl ⟨by rfl, ?_⟩) hS0 ?_
    rotate_left
    · intro wz hSz
      skip
      go_simp
      (try with_reducible rfl)
    try simp only [Act.put, List.setIfInBounds_toArray, List.set_cons_zero, List.set_cons_succ]
    refine anyL_take (i := 4) (oi := { dst := some 14, op := Go.Op.load 35 (Go.Operand.tmp 5), type := 35, pos := "model.go:63", after := #[], guard := none }) (v := ?_) rfl (by decide) (by kernel_rfl) (by kernel_rfl) (by kernel_rfl) (by kernel_rfl) (fun _ _ _ h => h) (Or.inl ⟨by rfl, ?_⟩) hS0 ?_
    rotate_left
    · intro wz hSz
      obtain ⟨⟨z0, z1, z2, z3, z4, z5⟩, ⟨z6, z7, z8, z9, z10, z11⟩⟩ := hSz
      go_simp
      (try with_reducible rfl)
    try simp only [Act.put, List.setIfInBounds_toArray, List.set_cons_zero, List.set_cons_succ]
    refine anyL_ready (rs := [2]) (by kernel_rfl) (by simp) ?_
    refine AllL.cons (o := { dst := some 12, op := Go.Op.call { callee := Go.Callee.value (Go.Operand.tmp 10), args := #[Go.Operand.tmp 11], argTypes := #[35] }, type := 2, pos := "model.go:63", after := #[{ on := 0, ground := Go.Ground.data }, { on := 1, ground := Go.Ground.data }], guard := none }) rfl (fun K' hK => ?_) AllL.nil
    rw [if_pos (by rfl)]
    go_simp
    go_at_call 96
    refine (cA1 _).mono ?_
    rintro e1 w4 ⟨rfl, b4⟩
    have S4 := hSB _ _ b4 hS0
    refine hK _ _ S4 ?_
    clear hK K'
    try simp only [Act.put, List.setIfInBounds_toArray, List.set_cons_zero, List.set_cons_succ]
    refine anyL_ready (rs := [5]) (by kernel_rfl) (by simp) ?_
    refine AllL.cons (o := { dst := some 15, op := Go.Op.call { callee := Go.Callee.value (Go.Operand.tmp 13), args := #[Go.Operand.tmp 14], argTypes := #[35] }, type := 2, pos := "model.go:63", after := #[{ on := 3, ground := Go.Ground.data }, { on := 4, ground := Go.Ground.data }, { on := 2, ground := Go.Ground.chain }], guard := none }) rfl (fun K' hK => ?_) AllL.nil
    rw [if_pos (by rfl)]
    go_simp
    go_at_call 96
    refine (cA2 _).mono ?_
    rintro e1 w5 ⟨rfl, b5⟩
    have S5 := hSB _ _ b5 S4
    refine hK _ _ S5 ?_
    clear hK K'
    try simp only [Act.put, List.setIfInBounds_toArray, List.set_cons_zero, List.set_cons_succ]
    refine anyL_ready (rs := [6]) (by kernel_rfl) (by simp) ?_
    refine AllL.cons (o := { dst := some 16, op := Go.Op.call { callee := Go.Callee.value (Go.Operand.func 75), args := #[Go.Operand.tmp 12, Go.Operand.tmp 15], argTypes := #[2, 2] }, type := 3, pos := "model.go:63", after := #[{ on := 2, ground := Go.Ground.data }, { on := 5, ground := Go.Ground.data }, { on := 5, ground := Go.Ground.chain }], guard := none }) rfl (fun K' hK => ?_) AllL.nil
    rw [if_pos (by rfl)]
    go_simp
    go_at_call 75
    refine (cI _).mono ?_
    rintro e6 w9 ⟨rfl, rfl⟩
    refine hK _ _ S5 ?_
    clear hK K'
    try simp only [Act.put, List.setIfInBounds_toArray, List.set_cons_zero, List.set_cons_succ]
    refine anyL_take (i := 7) (oi := { dst := some 9, op := Go.Op.assign (Go.Operand.tmp 16), type := 3, pos := "model.go:63", after := #[{ on := 6, ground := Go.Ground.data }, { on := 6, ground := Go.Ground.chain }, { on := 0, ground := Go.Ground.phase }, { on := 1, ground := Go.Ground.phase }, { on := 2, ground := Go.Ground.phase }, { on := 3, ground := Go.Ground.phase }, { on := 4, ground := Go.Ground.phase }, { on := 5, ground := Go.Ground.phase }, { on := 6, ground := Go.Ground.phase }], guard := none }) (v := ?_) rfl (by decide) (by kernel_rfl) (by kernel_rfl) (by kernel_rfl) (by kernel_rfl) (fun _ _ _ h => h) (Or.inl ⟨by rfl, ?_⟩) S5 ?_
    rotate_left
    · intro wz hSz
      skip
      go_simp
      (try with_reducible rfl)
    try simp only [Act.put, List.setIfInBounds_toArray, List.set_cons_zero, List.set_cons_succ]
    refine anyL_done (by kernel_rfl) ?_ _
    have b35 : Below W3.heap.size W3 w5 := hrf.trans (b4.trans (b5.mono b4.size))
    have HB5 : Below w.heap.size w w5.drew := (HB.out.trans (b35.mono HB.out.size)).trans ((Below.refl _ _).drew)
    have k1 := K1.out _ HB5
    have hS5 : (w5.drew.cell? ⟨w.heap.size, 0, none⟩ = some (.slice p1 x.path.length c1) ∧ w5.drew.cell? ⟨w.heap.size, 1, none⟩ = some (.string x.id) ∧ w5.drew.cell? ⟨w.heap.size, 2, none⟩ = some (.string x.title) ∧ w5.drew.cell? ⟨w.heap.size, 3, none⟩ = some (.string x.link) ∧ w5.drew.cell? ⟨w.heap.size, 4, none⟩ = some (.int .i64 x.upd) ∧ w5.drew.cell? ⟨w.heap.size, 5, none⟩ = some (.slice q1 x.ents.length d1)) ∧ (w5.drew.cell? ⟨w.heap.size + 1, 0, none⟩ = some (.slice p2 y.path.length c2) ∧ w5.drew.cell? ⟨w.heap.size + 1, 1, none⟩ = some (.string y.id) ∧ w5.drew.cell? ⟨w.heap.size + 1, 2, none⟩ = some (.string y.title) ∧ w5.drew.cell? ⟨w.heap.size + 1, 3, none⟩ = some (.string y.link) ∧ w5.drew.cell? ⟨w.heap.size + 1, 4, none⟩ = some (.int .i64 y.upd) ∧ w5.drew.cell? ⟨w.heap.size + 1, 5, none⟩ = some (.slice q2 y.ents.length d2)) := S5
    clear hS0 S4 S5 b4 b5 hrf
    go_wp2
    refine wp_region_late (S := fun w' => (w'.cell? ⟨w.heap.size, 0, none⟩ = some (.slice p1 x.path.length c1) ∧ w'.cell? ⟨w.heap.size, 1, none⟩ = some (.string x.id) ∧ w'.cell? ⟨w.heap.size, 2, none⟩ = some (.string x.title) ∧ w'.cell? ⟨w.heap.size, 3, none⟩ = some (.string x.link) ∧ w'.cell? ⟨w.heap.size, 4, none⟩ = some (.int .i64 x.upd) ∧ w'.cell? ⟨w.heap.size, 5, none⟩ = some (.slice q1 x.ents.length d1)) ∧ (w'.cell? ⟨w.heap.size + 1, 0, none⟩ = some (.slice p2 y.path.length c2) ∧ w'.cell? ⟨w.heap.size + 1, 1, none⟩ = some (.string y.id) ∧ w'.cell? ⟨w.heap.size + 1, 2, none⟩ = some (.string y.title) ∧ w'.cell? ⟨w.heap.size + 1, 3, none⟩ = some (.string y.link) ∧ w'.cell? ⟨w.heap.size + 1, 4, none⟩ = some (.int .i64 y.upd) ∧ w'.cell? ⟨w.heap.size + 1, 5, none⟩ = some (.slice q2 y.ents.length d2))) (D := []) (by kernel_rfl) ?_
    refine anyL_take (i := 0) (oi := { dst := some 19, op := Go.Op.move (Go.Operand.tmp 3), type := 95, pos := "model.go:66", after := #[], guard := none }) (v := ?_) rfl (by decide) (by kernel_rfl) (by kernel_rfl) (by kernel_rfl) (by kernel_rfl) (fun _ _ _ h => h) (Or.inl ⟨by rfl, ?_⟩) hS5 ?_
    rotate_left
    · intro wz hSz
      skip
      go_simp
      (try with_reducible rfl)
    try simp only [Act.put, List.setIfInBounds_toArray, List.set_cons_zero, List.set_cons_succ]
    refine anyL_take (i := 1) (oi := { dst := some 20, op := Go.Op.load 35 (Go.Operand.tmp 4), type := 35, pos := "model.go:66", after := #[], guard := none }) (v := ?_) rfl (by decide) (by kernel_rfl) (by kernel_rfl) (by kernel_rfl) (by kernel_rfl) (fun _ _ _ h => h) (Or.inl ⟨by rfl, ?_⟩) hS5 ?_
    rotate_left
    · intro wz hSz
      obtain ⟨⟨z0, z1, z2, z3, z4, z5⟩, ⟨z6, z7, z8, z9, z10, z11⟩⟩ := hSz
      go_simp
      (try with_reducible rfl)
    try simp only [Act.put, List.setIfInBounds_toArray, List.set_cons_zero, List.set_cons_succ]
    refine anyL_take (i := 3) (oi := { dst := some 22, op := Go.Op.move (Go.Operand.tmp 3), type := 95, pos := "model.go:66", after := #[], guard := none }) (v := ?_) rfl (by decide) (by kernel_rfl) (by kernel_rfl) (by kernel_rfl) (by kernel_rfl) (fun _ _ _ h => h) (Or.inl ⟨by rfl, ?_⟩) hS5 ?_
    rotate_left
    · intro wz hSz
      skip
      go_simp
      (try with_reducible rfl)
    try simp only [Act.put, List.setIfInBounds_toArray, List.set_cons_zero, List.set_cons_succ]
    refine anyL_take (i := 4) (oi := { dst := some 23, op := Go.Op.load 35 (Go.Operand.tmp 5), type := 35, pos := "model.go:66", after := #[], guard := none }) (v := ?_) rfl (by decide) (by kernel_rfl) (by kernel_rfl) (by kernel_rfl) (by kernel_rfl) (fun _ _ _ h => h) (Or.inl ⟨by rfl, ?_⟩) hS5 ?_
    rotate_left
    · intro wz hSz
      obtain ⟨⟨z0, z1, z2, z3, z4, z5⟩, ⟨z6, z7, z8, z9, z10, z11⟩⟩ := hSz
      go_simp
      (try with_reducible rfl)
    try simp only [Act.put, List.setIfInBounds_toArray, List.set_cons_zero, List.set_cons_succ]
    refine anyL_ready (rs := [2]) (by kernel_rfl) (by simp) ?_
    refine AllL.cons (o := { dst := some 21, op := Go.Op.call { callee := Go.Callee.value (Go.Operand.tmp 19), args := #[Go.Operand.tmp 20], argTypes := #[35] }, type := 9, pos := "model.go:66", after := #[{ on := 0, ground := Go.Ground.data }, { on := 1, ground := Go.Ground.data }], guard := none }) rfl (fun K' hK => ?_) AllL.nil
    rw [if_pos (by rfl)]
    go_simp
    go_at_call 97
    refine k1.mono ?_
    rintro e1 w7 ⟨rfl, b7⟩
    have S7 := hSB _ _ b7 hS5
    refine hK _ _ S7 ?_
    clear hK K'
    have k2 := K2.out _ (HB5.trans (b7.mono HB5.size))
    clear HB5 k1
    try simp only [Act.put, List.setIfInBounds_toArray, List.set_cons_zero, List.set_cons_succ]
    refine anyL_ready (rs := [5]) (by kernel_rfl) (by simp) ?_
    refine AllL.cons (o := { dst := some 24, op := Go.Op.call { callee := Go.Callee.value (Go.Operand.tmp 22), args := #[Go.Operand.tmp 23], argTypes := #[35] }, type := 9, pos := "model.go:66", after := #[{ on := 3, ground := Go.Ground.data }, { on := 4, ground := Go.Ground.data }, { on := 2, ground := Go.Ground.chain }], guard := none }) rfl (fun K' hK => ?_) AllL.nil
    rw [if_pos (by rfl)]
    go_simp
    go_at_call 97
    refine k2.mono ?_
    rintro e1 w8 ⟨rfl, b8⟩
    have S8 := hSB _ _ b8 S7
    refine hK _ _ S8 ?_
    clear hK K'
    try simp only [Act.put, List.setIfInBounds_toArray, List.set_cons_zero, List.set_cons_succ]
    refine anyL_ready (rs := [6]) (by kernel_rfl) (by simp) ?_
    refine AllL.cons (o := { dst := some 25, op := Go.Op.call { callee := Go.Callee.value (Go.Operand.func 76), args := #[Go.Operand.tmp 21, Go.Operand.tmp 24], argTypes := #[9, 9] }, type := 3, pos := "model.go:66", after := #[{ on := 2, ground := Go.Ground.data }, { on := 5, ground := Go.Ground.data }, { on := 5, ground := Go.Ground.chain }], guard := none }) rfl (fun K' hK => ?_) AllL.nil
    rw [if_pos (by rfl)]
    go_simp
    go_at_call 76
    refine (cS _).mono ?_
    rintro e6 w9 ⟨rfl, rfl⟩
    refine hK _ _ S8 ?_
    clear hK K'
    try simp only [Act.put, List.setIfInBounds_toArray, List.set_cons_zero, List.set_cons_succ]
    refine anyL_take (i := 7) (oi := { dst := some 9, op := Go.Op.assign (Go.Operand.tmp 25), type := 3, pos := "model.go:66", after := #[{ on := 6, ground := Go.Ground.data }, { on := 6, ground := Go.Ground.chain }, { on := 0, ground := Go.Ground.phase }, { on := 1, ground := Go.Ground.phase }, { on := 2, ground := Go.Ground.phase }, { on := 3, ground := Go.Ground.phase }, { on := 4, ground := Go.Ground.phase }, { on := 5, ground := Go.Ground.phase }, { on := 6, ground := Go.Ground.phase }], guard := none }) (v := ?_) rfl (by decide) (by kernel_rfl) (by kernel_rfl) (by kernel_rfl) (by kernel_rfl) (fun _ _ _ h => h) (Or.inl ⟨by rfl, ?_⟩) S8 ?_
    rotate_left
    · intro wz hSz
      skip
      go_simp
      (try with_reducible rfl)
    try simp only [Act.put, List.setIfInBounds_toArray, List.set_cons_zero, List.set_cons_succ]
    refine anyL_done (by kernel_rfl) ?_ _
    have b38 : Below W3.heap.size W3 w8 := b35.trans (((Below.refl _ _).drew.trans (b7.trans (b8.mono b7.size))).mono b35.size)
    clear hS5 S7 S8 hSB b7 b8 b35 k2
    obtain ⟨hR, ⟨⟨e0, e1, e2, e3, e4, e5⟩, ⟨f0, f1, f2, f3, f4, f5⟩⟩, hB⟩ := HF.out _ b38
    have r0 := hR.cell 0
    have r1 := hR.cell 1
    have r2 := hR.cell 2
    have r3 := hR.cell 3
    have r4 := hR.cell 4
    have r5 := hR.cell 5
    simp only [List.getElem?_toArray, List.getElem?_cons_zero, List.getElem?_cons_succ] at r0 r1 r2 r3 r4 r5
    have t0 := hR.fr 0
    have t1 := hR.fr 1
    have t2 := hR.fr 2
    have t3 := hR.fr 3
    have t4 := hR.fr 4
    have t5 := hR.fr 5
    have HBB := Lib.hid (HS.out _ (.slice p1 x.path.length c1) (.string x.id) (.string x.title) (.string x.link) (.int .i64 x.upd) (.slice q1 x.ents.length d1) hB)
    clear hR hB HF HS
    go_wp2
    exact bodyPost_ret (v := .agg #[.slice p1 x.path.length c1, .string x.id, .string x.title, .string x.link, .int .i64 x.upd, .slice q1 x.ents.length d1]) (by simp [results, Tryz.results95, go_sem, mset_same, r0, r1, r2, r3, r4, r5]) rfl ⟨rfl, HBB.out⟩
theorem own_sets {x : World} {B n c s2 s3 : Nat} {T : TypeId} {p : Option Addr} {xs : List Value} (h : x.ownsRow B T 1 (.slice p n c) n xs) (h2 : s2 < B) (h3 : s3 < B) (us30 us35 us20 us21 us22 us23 us24 us25 : Value) : ((((((((x.setCell ⟨s3, 0, none⟩ us30).setCell ⟨s3, 5, none⟩ us35).setCell ⟨s2, 0, none⟩ us20).setCell ⟨s2, 1, none⟩ us21).setCell ⟨s2, 2, none⟩ us22).setCell ⟨s2, 3, none⟩ us23).setCell ⟨s2, 4, none⟩ us24).setCell ⟨s2, 5, none⟩ us25).ownsRow B T 1 (.slice p n c) n xs :=
  jrow_same h (fun g hg => by
    have hb := (h.lt g hg).1
    have n2 : g ≠ s2 := by omega
    have n3 : g ≠ s3 := by omega
    rw [Below.heap_setCell _ _ _ _ n2, Below.heap_setCell _ _ _ _ n2, Below.heap_setCell _ _ _ _ n2, Below.heap_setCell _ _ _ _ n2, Below.heap_setCell _ _ _ _ n2, Below.heap_setCell _ _ _ _ n2, Below.heap_setCell _ _ _ _ n3, Below.heap_setCell _ _ _ _ n3])
theorem own_base {x : World} {B B' n c : Nat} {T : TypeId} {p : Option Addr} {xs : List Value} (h : x.ownsRow B' T 1 (.slice p n c) n xs) (hb : B ≤ B') : x.ownsRow B T 1 (.slice p n c) n xs := by
  refine ⟨h.1, ?_⟩
  rcases h.2 with hn | ⟨g, cap, cur, hv, hg, rest⟩
  · exact .inl hn
  · exact .inr ⟨g, cap, cur, hv, by omega, rest⟩
set_option maxRecDepth 100000 in
set_option maxHeartbeats 4000000 in
theorem mc_cloneS (l : List ByteArray) (p : Option Addr) (c : Nat) (w : World) (hN : NamAt w p l) (hl : l.length ≤ 1000000) :
    Calls Tryz.prog 98 #[.slice p l.length c] w fun e w' => ∃ p' c', e = .returned (.slice p' l.length c') ∧ w'.ownsRow w.heap.size 9 1 (.slice p' l.length c') l.length (l.map Value.string) ∧ Below w.heap.size w w' := by
  obtain ⟨i0, hi0, hi1, hi3, hi4⟩ := info_parts mstr_info
  rcases p with _ | a
  · have hl0 : l = [] := by
      rcases l with _ | ⟨x, r⟩
      · rfl
      · obtain ⟨a, ha, -⟩ := hN 0 (by simp)
        cases ha
    subst hl0
    have hnil : ∀ wx, (binOp .eql 32 (.slice none 0 c) (.slice none 0 0)).run Tryz.prog wx = .ok (.bool true) wx := fun wx => Lib.run_eql_slice_nil wx _ _ none 0 c 0 0 Tryz.underlying32
    go_enter Tryz.func98, Tryz.ntmps98
    go_wp2
    go_ret
    exact ⟨none, 0, rfl, World.ownsRow_nil _ _ _ _, Below.refl _ _⟩
  · have hE := World.ownsRow_made (base := w.heap.size) (e := 9) (size := 1) w #[] 0 (Nat.le_refl _) (Nat.zero_le _) rfl
    have hba : ∀ o : Obj, Below w.heap.size w (w.alloc o) := fun o => (Below.refl _ _).alloc (Nat.le_refl _) o
    have hnews := nam_news (hN.below (hba (.cells #[] 9)))
    have hx1 : (l.map Value.string).length = l.length * 1 := by rw [List.length_map, Nat.mul_one]
    have h1 : ∀ u ∈ l.map Value.string, u.oneCell' = true := by
      intro u hu
      obtain ⟨x, -, rfl⟩ := List.mem_map.1 hu
      rfl
    have hlz : (l.length : Int) ≤ 1000000 := by omega
    have hnil : ∀ wx, (binOp .eql 32 (.slice (some a) l.length c) (.slice none 0 0)).run Tryz.prog wx = .ok (.bool false) wx := fun wx => Lib.run_eql_slice_nil wx _ _ (some a) l.length c 0 0 Tryz.underlying32
    clear hN
    go_enter Tryz.func98, Tryz.ntmps98
    go_wp2_with (at_builtin; refine wpList_append_own _ rfl _ _ 32 rfl w.heap.size 9 i0 (.string ⟨#[]⟩) 1 16 Tryz.underlying32 hi0 hi1 hi3 hi4 rfl (by decide) (.slice (some ⟨w.heap.size, 0, none⟩) 0 0) 0 [] rfl hE a l.length c (l.map Value.string) rfl hx1 hnews h1 (by unfold maxLen; omega) (by omega) (by simp) ?_; intro v4 w4 hown4 hgrow4 _)
    rw [Nat.zero_add, List.nil_append] at hown4
    obtain ⟨p4, c4, rfl⟩ := jrow_val hown4
    have HB := Lib.hid ((hba (.cells #[] 9)).grown hgrow4 (by simp) (fun k hk => by cases hk; exact Nat.le_refl _))
    clear hgrow4 hnews hE hba
    go_wp2
    go_ret
    exact ⟨p4, c4, rfl, hown4, HB.out⟩
def cmpKF (a b : FeedD) : Int := lexI (cmpT a.upd b.upd) (cmpL (fkL a) (fkL b))
theorem cmpKF_ok : Cmp3 cmpKF := (cmpT_ok.on FeedD.upd).lex (cmpL_ok.on fkL)
theorem ltF_mx (a b : FeedD) : ltF a b = bareF (mxB cmpKF a b) := by
  unfold ltF ltFB mxB cmpKF
  rw [lt_lex]
  by_cases h : lexI (cmpT a.upd b.upd) (cmpL (fkL a) (fkL b)) < 0
  · rw [decide_eq_true h, if_pos rfl, if_pos h]
  · rw [decide_eq_false h, if_neg (by simp), if_neg h]
set_option maxRecDepth 100000 in
set_option maxHeartbeats 16000000 in
theorem mc_LaterFeed (f g : FeedD) (v u : Value) (w : World) (hf : FeedIs w f v) (hg : FeedIs w g u) (h1 : f.path.length ≤ 100000) (h2 : g.path.length ≤ 100000)
    (k1 : ∀ wx, Below w.heap.size w wx → Calls Tryz.prog 97 #[v] wx fun e w' => e = .returned (.string (ofBytes (fkL f))) ∧ Below wx.heap.size wx w') (k2 : ∀ wx, Below w.heap.size w wx → Calls Tryz.prog 97 #[u] wx fun e w' => e = .returned (.string (ofBytes (fkL g))) ∧ Below wx.heap.size wx w') :
    Calls Tryz.prog 80 #[v, u] w fun e w' => ∃ p' c', e = .returned (.agg #[.slice p' (ltF f g).path.length c', .string (ltF f g).id, .string (ltF f g).title, .string (ltF f g).link, .int .i64 (ltF f g).upd, .slice none 0 0]) ∧ w'.ownsRow w.heap.size 9 1 (.slice p' (ltF f g).path.length c') (ltF f g).path.length ((ltF f g).path.map Value.string) ∧ Below w.heap.size w w' := by
  obtain ⟨p1, c1, q1, d1, rfl, hp1, he1⟩ := hf
  obtain ⟨p2, c2, q2, d2, rfl, hp2, he2⟩ := hg
  obtain ⟨W3, hW3⟩ : ∃ W3, W3 = ((w.alloc (.cells #[.slice p1 f.path.length c1, .string f.id, .string f.title, .string f.link, .int .i64 f.upd, .slice q1 f.ents.length d1] 35)).alloc (.cells #[.slice p2 g.path.length c2, .string g.id, .string g.title, .string g.link, .int .i64 g.upd, .slice q2 g.ents.length d2] 35)).alloc (.cells #[.slice none 0 0, .string ⟨#[]⟩, .string ⟨#[]⟩, .string ⟨#[]⟩, .int .i64 0, .slice none 0 0] 35) := ⟨_, rfl⟩
  have hB : Below w.heap.size w W3 := by rw [hW3]; exact (((Below.refl _ _).alloc (Nat.le_refl _) _).alloc (by simp) _).alloc (by simp; omega) _
  have hsz : W3.heap.size = w.heap.size + 3 := by rw [hW3]; simp
  obtain ⟨X1, X2⟩ : FBox W3 w.heap.size f p1 c1 q1 d1 ∧ FBox W3 (w.heap.size + 1) g p2 c2 q2 d2 := by
    obtain ⟨a1, a2⟩ := FBox.both w f g p1 c1 q1 d1 p2 c2 q2 d2
    rw [hW3]
    exact ⟨a1.below ((Below.refl _ _).alloc (Nat.le_refl _) _), a2.below ((Below.refl _ _).alloc (Nat.le_refl _) _)⟩
  have hR : MBlk W3 (w.heap.size + 2) #[.slice none 0 0, .string ⟨#[]⟩, .string ⟨#[]⟩, .string ⟨#[]⟩, .int .i64 0, .slice none 0 0] 35 := by
    have := heap_alloc_new ((w.alloc (.cells #[.slice p1 f.path.length c1, .string f.id, .string f.title, .string f.link, .int .i64 f.upd, .slice q1 f.ents.length d1] 35)).alloc (.cells #[.slice p2 g.path.length c2, .string g.id, .string g.title, .string g.link, .int .i64 g.upd, .slice q2 g.ents.length d2] 35)) (.cells #[.slice none 0 0, .string ⟨#[]⟩, .string ⟨#[]⟩, .string ⟨#[]⟩, .int .i64 0, .slice none 0 0] 35)
    rw [World.size_alloc, World.size_alloc] at this
    rw [hW3]
    exact this
  have cL := mc_laterF f g p1 c1 q1 d1 p2 c2 q2 d2 (fkL f) (fkL g) W3 (fun wx hb => k1 wx (hB.trans (hb.mono hB.size))) (fun wx hb => k2 wx (hB.trans (hb.mono hB.size)))
  obtain ⟨z, p, c, q, d, hzV, hzL, hzN, hzl⟩ : ∃ (z : FeedD) (p : Option Addr) (c : Nat) (q : Option Addr) (d : Nat), (if lexI (cmpU g.upd f.upd) (cmpL (fkL f) (fkL g)) < 0 then (.agg #[.slice p2 g.path.length c2, .string g.id, .string g.title, .string g.link, .int .i64 g.upd, .slice q2 g.ents.length d2] : Value) else .agg #[.slice p1 f.path.length c1, .string f.id, .string f.title, .string f.link, .int .i64 f.upd, .slice q1 f.ents.length d1]) = .agg #[.slice p z.path.length c, .string z.id, .string z.title, .string z.link, .int .i64 z.upd, .slice q z.ents.length d] ∧ ltF f g = bareF z ∧ NamAt W3 p z.path ∧ z.path.length ≤ 100000 := by
    rw [ltF_mx]
    unfold mxB cmpKF cmpT
    split
    · exact ⟨g, p2, c2, q2, d2, rfl, rfl, hp2.below hB, h2⟩
    · exact ⟨f, p1, c1, q1, d1, rfl, rfl, hp1.below hB, h1⟩
  rw [hzV] at cL
  rw [hzL]
  have HR := Lib.hid hR
  have HB := Lib.hid hB
  have HN := Lib.hid hzN
  obtain ⟨e0, e1, e2, e3, e4, e5⟩ := X1
  obtain ⟨f0, f1, f2, f3, f4, f5⟩ := X2
  have HSZ := Lib.hid hsz
  clear k1 k2 hB hR hzV hzL hzN hp1 hp2 he1 he2 hsz h1 h2
  go_enter Tryz.func80, Tryz.ntmps80
  go_upto_region 1 with fail
  simp only [← hW3]
  clear hW3
  go_wp2_with fail
  refine cL.mono ?_
  rintro e w4 ⟨rfl, b4⟩
  obtain ⟨W5, hW5⟩ : ∃ W5, W5 = w4.alloc (.cells #[.slice p z.path.length c, .string z.id, .string z.title, .string z.link, .int .i64 z.upd, .slice q z.ents.length d] 35) := ⟨_, rfl⟩
  have b5 : Below w4.heap.size w4 W5 := by rw [hW5]; exact (Below.refl _ _).alloc (Nat.le_refl _) _
  have hM : MBlk W5 w4.heap.size #[.slice p z.path.length c, .string z.id, .string z.title, .string z.link, .int .i64 z.upd, .slice q z.ents.length d] 35 := by rw [hW5]; exact heap_alloc_new w4 _
  have b35 := b4.trans (b5.mono b4.size)
  have cC := mc_cloneS z.path p c W5 (HN.out.below b35) (by omega)
  have h4 : w.heap.size + 3 ≤ w4.heap.size := by have := b4.size; have := HSZ.out; omega
  have h5 : W5.heap.size = w4.heap.size + 1 := by rw [hW5]; simp
  have HR5 := Lib.hid (HR.out.more b35)
  have HB5 := Lib.hid (HB.out.trans (b35.mono HB.out.size))
  have x0 := hM.cell 0
  simp only [List.getElem?_toArray, List.getElem?_cons_zero] at x0
  have HM := Lib.hid hM
  have H4 := Lib.hid h4
  have H5 := Lib.hid h5
  clear e0 e1 e2 e3 e4 e5 f0 f1 f2 f3 f4 f5 cL b4 b5 b35 hM HN HR HB HSZ h4 h5
  go_upto_region 2 with fail
  simp only [← hW5]
  clear hW5
  go_wp2_with fail
  refine cC.mono ?_
  rintro e w6 ⟨p', c', rfl, ho, b6⟩
  have R3 := HM.out.more b6
  have R2 := HR5.out.more b6
  have HO := Lib.hid ho
  have HB6 := Lib.hid (HB5.out.trans (b6.mono HB5.out.size))
  clear x0 cC b6 ho HB5 HR5 HM
  generalize w4.heap.size = b at *
  have r0 := R3.cell 0
  have t0 := R3.fr 0
  have r1 := R3.cell 1
  have t1 := R3.fr 1
  have r2 := R3.cell 2
  have t2 := R3.fr 2
  have r3 := R3.cell 3
  have t3 := R3.fr 3
  have r4 := R3.cell 4
  have t4 := R3.fr 4
  have r5 := R3.cell 5
  have t5 := R3.fr 5
  have m0 := R2.cell 0
  have n0 := R2.fr 0
  have m1 := R2.cell 1
  have n1 := R2.fr 1
  have m2 := R2.cell 2
  have n2 := R2.fr 2
  have m3 := R2.cell 3
  have n3 := R2.fr 3
  have m4 := R2.cell 4
  have n4 := R2.fr 4
  have m5 := R2.cell 5
  have n5 := R2.fr 5
  simp only [List.getElem?_toArray, List.getElem?_cons_zero, List.getElem?_cons_succ] at r0 m0 r1 m1 r2 m2 r3 m3 r4 m4 r5 m5
  have hn1 : b ≠ w.heap.size + 2 := by have := H4.out; omega
  have hn2 : w.heap.size + 2 ≠ b := fun e => hn1 e.symm
  have HOF := Lib.hid (own_base (B := w.heap.size) (own_sets (s2 := w.heap.size + 2) (s3 := b) HO.out (by have := H4.out; have := H5.out; omega) (by have := H5.out; omega) (.slice p' z.path.length c') (.slice none 0 0) (.slice p' z.path.length c') (.string z.id) (.string z.title) (.string z.link) (.int .i64 z.upd) (.slice none 0 0)) (by have := H4.out; have := H5.out; omega))
  have HBF := Lib.hid (below_sets (s2 := w.heap.size + 2) (s3 := b) HB6.out (by omega) (by have := H4.out; omega) (.slice p' z.path.length c') (.slice none 0 0) (.slice p' z.path.length c') (.string z.id) (.string z.title) (.string z.link) (.int .i64 z.upd) (.slice none 0 0))
  clear R3 R2 HO HB6 H4 H5
  go_wp2
  exact bodyPost_ret (v := .agg #[.slice p' z.path.length c', .string z.id, .string z.title, .string z.link, .int .i64 z.upd, .slice none 0 0]) (by simp [results, Tryz.results80, go_sem, mset_same, m0, m1, m2, m3, m4, m5]) rfl ⟨p', c', rfl, HOF.out, HBF.out⟩
end Go.Proofs.YtbfalppeifkjdaaGreatDoor
end
