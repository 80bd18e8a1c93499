/- Packed from the texts MeI. -/
import Derived.Test.YtbfalppeifkjdaaGreatDoorXLate
import Derived.Test.YtbfalppeifkjdaaGreatDoorXl1
import Derived.Test.YtbfalppeifkjdaaGreatDoorXl2
section
namespace Go.Proofs.YtbfalppeifkjdaaGreatDoor
open Go.RowKit
set_option maxRecDepth 100000 in
theorem mc_updE (x : EntD) (w : World) : Calls Tryz.prog 72 #[EntV x] w fun e w' => e = .returned (.int .i64 x.upd) ∧ Below w.heap.size w w' := by
  obtain ⟨i, t, l, c, u⟩ := x
  unfold EntV
  dsimp only
  have hb : ∀ o : Obj, Below w.heap.size w (w.alloc o) := fun o => (Below.refl _ _).alloc (Nat.le_refl _) o
  have HB := Lib.hid hb
  clear hb
  go_enter Tryz.func72, Tryz.ntmps72
  go_wp2
  go_ret
  exact ⟨rfl, HB.out _⟩
set_option maxRecDepth 100000 in
set_option maxHeartbeats 16000000 in
theorem mc_laterE (x y : EntD) (KX KY : List UInt8) (w : World) (k1 : ∀ wx, Below w.heap.size w wx → Calls Tryz.prog 73 #[.agg #[.string x.id, .string x.title, .string x.link, .string x.content, .int .i64 x.upd]] wx fun e w' => e = .returned (.string (ofBytes KX)) ∧ Below wx.heap.size wx w') (k2 : ∀ wx, Below w.heap.size w wx → Calls Tryz.prog 73 #[.agg #[.string y.id, .string y.title, .string y.link, .string y.content, .int .i64 y.upd]] wx fun e w' => e = .returned (.string (ofBytes KY)) ∧ Below wx.heap.size wx w') :
    Calls Tryz.prog 71 #[.agg #[.string x.id, .string x.title, .string x.link, .string x.content, .int .i64 x.upd], .agg #[.string y.id, .string y.title, .string y.link, .string y.content, .int .i64 y.upd], .func (.func 72) #[] #[], .func (.func 73) #[] #[]] w fun e w' => e = .returned (if lexI (cmpU y.upd x.upd) (cmpL KX KY) < 0 then .agg #[.string y.id, .string y.title, .string y.link, .string y.content, .int .i64 y.upd] else .agg #[.string x.id, .string x.title, .string x.link, .string x.content, .int .i64 x.upd]) ∧ Below w.heap.size w w' := by
  obtain ⟨W3, hW3⟩ : ∃ W3, W3 = ((w.alloc (.cells #[.string x.id, .string x.title, .string x.link, .string x.content, .int .i64 x.upd] 23)).alloc (.cells #[.string y.id, .string y.title, .string y.link, .string y.content, .int .i64 y.upd] 23)).alloc (.cells #[.string ⟨#[]⟩, .string ⟨#[]⟩, .string ⟨#[]⟩, .string ⟨#[]⟩, .int .i64 0] 23) := ⟨_, rfl⟩
  have hB : Below w.heap.size w W3 := by rw [hW3]; exact (((Below.refl _ _).alloc (Nat.le_refl _) _).alloc (by simp) _).alloc (by simp; omega) _
  have hX : W3.cell? ⟨w.heap.size, 0, none⟩ = some (.string x.id) ∧ W3.cell? ⟨w.heap.size, 1, none⟩ = some (.string x.title) ∧ W3.cell? ⟨w.heap.size, 2, none⟩ = some (.string x.link) ∧ W3.cell? ⟨w.heap.size, 3, none⟩ = some (.string x.content) ∧ W3.cell? ⟨w.heap.size, 4, none⟩ = some (.int .i64 x.upd) := by
    have h := heap_alloc_new w (.cells #[.string x.id, .string x.title, .string x.link, .string x.content, .int .i64 x.upd] 23)
    have hk := ((Below.refl _ (w.alloc (.cells #[.string x.id, .string x.title, .string x.link, .string x.content, .int .i64 x.upd] 23))).alloc (Nat.le_refl _) (.cells #[.string y.id, .string y.title, .string y.link, .string y.content, .int .i64 y.upd] 23))
    have hk2 := ((Below.refl _ ((w.alloc (.cells #[.string x.id, .string x.title, .string x.link, .string x.content, .int .i64 x.upd] 23)).alloc (.cells #[.string y.id, .string y.title, .string y.link, .string y.content, .int .i64 y.upd] 23))).alloc (Nat.le_refl _) (.cells #[.string ⟨#[]⟩, .string ⟨#[]⟩, .string ⟨#[]⟩, .string ⟨#[]⟩, .int .i64 0] 23))
    rw [hW3]
    exact ⟨mcell hk2 (mcell hk (cell_of_row _ _ 0 _ _ _ h)), mcell hk2 (mcell hk (cell_of_row _ _ 1 _ _ _ h)), mcell hk2 (mcell hk (cell_of_row _ _ 2 _ _ _ h)), mcell hk2 (mcell hk (cell_of_row _ _ 3 _ _ _ h)), mcell hk2 (mcell hk (cell_of_row _ _ 4 _ _ _ h))⟩
  have hY : W3.cell? ⟨w.heap.size + 1, 0, none⟩ = some (.string y.id) ∧ W3.cell? ⟨w.heap.size + 1, 1, none⟩ = some (.string y.title) ∧ W3.cell? ⟨w.heap.size + 1, 2, none⟩ = some (.string y.link) ∧ W3.cell? ⟨w.heap.size + 1, 3, none⟩ = some (.string y.content) ∧ W3.cell? ⟨w.heap.size + 1, 4, none⟩ = some (.int .i64 y.upd) := by
    have h := heap_alloc_new (w.alloc (.cells #[.string x.id, .string x.title, .string x.link, .string x.content, .int .i64 x.upd] 23)) (.cells #[.string y.id, .string y.title, .string y.link, .string y.content, .int .i64 y.upd] 23)
    have hk2 := ((Below.refl _ ((w.alloc (.cells #[.string x.id, .string x.title, .string x.link, .string x.content, .int .i64 x.upd] 23)).alloc (.cells #[.string y.id, .string y.title, .string y.link, .string y.content, .int .i64 y.upd] 23))).alloc (Nat.le_refl _) (.cells #[.string ⟨#[]⟩, .string ⟨#[]⟩, .string ⟨#[]⟩, .string ⟨#[]⟩, .int .i64 0] 23))
    rw [World.size_alloc] at h
    rw [hW3]
    exact ⟨mcell hk2 (cell_of_row _ _ 0 _ _ _ h), mcell hk2 (cell_of_row _ _ 1 _ _ _ h), mcell hk2 (cell_of_row _ _ 2 _ _ _ h), mcell hk2 (cell_of_row _ _ 3 _ _ _ h), mcell hk2 (cell_of_row _ _ 4 _ _ _ h)⟩
  have hR : MBlk W3 (w.heap.size + 2) #[.string ⟨#[]⟩, .string ⟨#[]⟩, .string ⟨#[]⟩, .string ⟨#[]⟩, .int .i64 0] 23 := by
    have h := heap_alloc_new ((w.alloc (.cells #[.string x.id, .string x.title, .string x.link, .string x.content, .int .i64 x.upd] 23)).alloc (.cells #[.string y.id, .string y.title, .string y.link, .string y.content, .int .i64 y.upd] 23)) (.cells #[.string ⟨#[]⟩, .string ⟨#[]⟩, .string ⟨#[]⟩, .string ⟨#[]⟩, .int .i64 0] 23)
    rw [World.size_alloc, World.size_alloc] at h
    rw [hW3]
    exact h
  have hSB : ∀ u1 u2 : World, Below u1.heap.size u1 u2 → ((u1.cell? ⟨w.heap.size, 0, none⟩ = some (.string x.id) ∧ u1.cell? ⟨w.heap.size, 1, none⟩ = some (.string x.title) ∧ u1.cell? ⟨w.heap.size, 2, none⟩ = some (.string x.link) ∧ u1.cell? ⟨w.heap.size, 3, none⟩ = some (.string x.content) ∧ u1.cell? ⟨w.heap.size, 4, none⟩ = some (.int .i64 x.upd)) ∧ (u1.cell? ⟨w.heap.size + 1, 0, none⟩ = some (.string y.id) ∧ u1.cell? ⟨w.heap.size + 1, 1, none⟩ = some (.string y.title) ∧ u1.cell? ⟨w.heap.size + 1, 2, none⟩ = some (.string y.link) ∧ u1.cell? ⟨w.heap.size + 1, 3, none⟩ = some (.string y.content) ∧ u1.cell? ⟨w.heap.size + 1, 4, none⟩ = some (.int .i64 y.upd))) → ((u2.cell? ⟨w.heap.size, 0, none⟩ = some (.string x.id) ∧ u2.cell? ⟨w.heap.size, 1, none⟩ = some (.string x.title) ∧ u2.cell? ⟨w.heap.size, 2, none⟩ = some (.string x.link) ∧ u2.cell? ⟨w.heap.size, 3, none⟩ = some (.string x.content) ∧ u2.cell? ⟨w.heap.size, 4, none⟩ = some (.int .i64 x.upd)) ∧ (u2.cell? ⟨w.heap.size + 1, 0, none⟩ = some (.string y.id) ∧ u2.cell? ⟨w.heap.size + 1, 1, none⟩ = some (.string y.title) ∧ u2.cell? ⟨w.heap.size + 1, 2, none⟩ = some (.string y.link) ∧ u2.cell? ⟨w.heap.size + 1, 3, none⟩ = some (.string y.content) ∧ u2.cell? ⟨w.heap.size + 1, 4, none⟩ = some (.int .i64 y.upd))) := fun u1 u2 hb h => by
    obtain ⟨⟨z0, z1, z2, z3, z4⟩, ⟨z5, z6, z7, z8, z9⟩⟩ := h
    exact ⟨⟨mcell hb z0, mcell hb z1, mcell hb z2, mcell hb z3, mcell hb z4⟩, ⟨mcell hb z5, mcell hb z6, mcell hb z7, mcell hb z8, mcell hb z9⟩⟩
  have hfin : ∀ wx : World, Below W3.heap.size W3 wx → MBlk wx (w.heap.size + 2) #[.string ⟨#[]⟩, .string ⟨#[]⟩, .string ⟨#[]⟩, .string ⟨#[]⟩, .int .i64 0] 23 ∧ ((wx.cell? ⟨w.heap.size, 0, none⟩ = some (.string x.id) ∧ wx.cell? ⟨w.heap.size, 1, none⟩ = some (.string x.title) ∧ wx.cell? ⟨w.heap.size, 2, none⟩ = some (.string x.link) ∧ wx.cell? ⟨w.heap.size, 3, none⟩ = some (.string x.content) ∧ wx.cell? ⟨w.heap.size, 4, none⟩ = some (.int .i64 x.upd)) ∧ (wx.cell? ⟨w.heap.size + 1, 0, none⟩ = some (.string y.id) ∧ wx.cell? ⟨w.heap.size + 1, 1, none⟩ = some (.string y.title) ∧ wx.cell? ⟨w.heap.size + 1, 2, none⟩ = some (.string y.link) ∧ wx.cell? ⟨w.heap.size + 1, 3, none⟩ = some (.string y.content) ∧ wx.cell? ⟨w.heap.size + 1, 4, none⟩ = some (.int .i64 y.upd))) ∧ Below w.heap.size w wx := fun wx hb => ⟨hR.more hb, hSB _ _ hb ⟨hX, hY⟩, hB.trans (hb.mono hB.size)⟩
  have hset : ∀ (wx : World) (v0 v1 v2 v3 v4 : Value), Below w.heap.size w wx → Below w.heap.size w (((((wx.setCell ⟨w.heap.size + 2, 0, none⟩ v0).setCell ⟨w.heap.size + 2, 1, none⟩ v1).setCell ⟨w.heap.size + 2, 2, none⟩ v2).setCell ⟨w.heap.size + 2, 3, none⟩ v3).setCell ⟨w.heap.size + 2, 4, none⟩ v4) := fun wx v0 v1 v2 v3 v4 hb => (((((hb.setCell (p := ⟨w.heap.size + 2, 0, none⟩) (by show _ ≤ w.heap.size + 2; omega) _).setCell (p := ⟨w.heap.size + 2, 1, none⟩) (by show _ ≤ w.heap.size + 2; omega) _).setCell (p := ⟨w.heap.size + 2, 2, none⟩) (by show _ ≤ w.heap.size + 2; omega) _).setCell (p := ⟨w.heap.size + 2, 3, none⟩) (by show _ ≤ w.heap.size + 2; omega) _).setCell (p := ⟨w.heap.size + 2, 4, none⟩) (by show _ ≤ w.heap.size + 2; omega) _)
  have cA1 := fun wx => mc_updE x wx
  have cA2 := fun wx => mc_updE y wx
  unfold EntV at cA1 cA2
  have cI := fun wx => mc_int x.upd y.upd wx
  have cS := fun wx => mc_string (ofBytes KX) (ofBytes KY) wx
  rw [show cmpS (ofBytes KX) (ofBytes KY) = cmpL KX KY by unfold cmpS; rw [ofBytes_list, ofBytes_list]] at cS
  have HS := Lib.hid hset
  have HF := Lib.hid hfin
  have HB := Lib.hid hB
  have K1 := Lib.hid k1
  have K2 := Lib.hid k2
  have hS0 : (W3.drew.cell? ⟨w.heap.size, 0, none⟩ = some (.string x.id) ∧ W3.drew.cell? ⟨w.heap.size, 1, none⟩ = some (.string x.title) ∧ W3.drew.cell? ⟨w.heap.size, 2, none⟩ = some (.string x.link) ∧ W3.drew.cell? ⟨w.heap.size, 3, none⟩ = some (.string x.content) ∧ W3.drew.cell? ⟨w.heap.size, 4, none⟩ = some (.int .i64 x.upd)) ∧ (W3.drew.cell? ⟨w.heap.size + 1, 0, none⟩ = some (.string y.id) ∧ W3.drew.cell? ⟨w.heap.size + 1, 1, none⟩ = some (.string y.title) ∧ W3.drew.cell? ⟨w.heap.size + 1, 2, none⟩ = some (.string y.link) ∧ W3.drew.cell? ⟨w.heap.size + 1, 3, none⟩ = some (.string y.content) ∧ W3.drew.cell? ⟨w.heap.size + 1, 4, none⟩ = some (.int .i64 y.upd)) := ⟨hX, hY⟩
  have hrf := (Below.refl W3.heap.size W3).drew
  generalize ofBytes KX = kx at *
  generalize ofBytes KY = ky at *
  generalize cmpL KX KY = C at *
  generalize cmpU y.upd x.upd = U at *
  obtain ⟨e0, e1, e2, e3, e4⟩ := hX
  obtain ⟨f0, f1, f2, f3, f4⟩ := hY
  clear hB hfin hset hR k1 k2
  by_cases hU : U = 0
  case neg =>
    rw [show lexI U C = U by unfold lexI; rw [if_neg hU]]
    clear cS K1 K2
    by_cases hn : U < 0
    · rw [if_pos hn]
      go_enter Tryz.func71, Tryz.ntmps71
      go_upto_region 1 with fail
      simp only [← hW3]
      clear hW3 e0 e1 e2 e3 e4 f0 f1 f2 f3 f4
      go_wp2
      refine wp_region_late (S := fun w' => (w'.cell? ⟨w.heap.size, 0, none⟩ = some (.string x.id) ∧ w'.cell? ⟨w.heap.size, 1, none⟩ = some (.string x.title) ∧ w'.cell? ⟨w.heap.size, 2, none⟩ = some (.string x.link) ∧ w'.cell? ⟨w.heap.size, 3, none⟩ = some (.string x.content) ∧ w'.cell? ⟨w.heap.size, 4, none⟩ = some (.int .i64 x.upd)) ∧ (w'.cell? ⟨w.heap.size + 1, 0, none⟩ = some (.string y.id) ∧ w'.cell? ⟨w.heap.size + 1, 1, none⟩ = some (.string y.title) ∧ w'.cell? ⟨w.heap.size + 1, 2, none⟩ = some (.string y.link) ∧ w'.cell? ⟨w.heap.size + 1, 3, none⟩ = some (.string y.content) ∧ w'.cell? ⟨w.heap.size + 1, 4, none⟩ = some (.int .i64 y.upd))) (D := []) (by kernel_rfl) ?_
      refine anyL_take (i := 0) (oi := { dst := some 10, op := Go.Op.move (Go.Operand.tmp 2), type := 105, pos := "model.go:63", after := #[], guard := none }) (v := ?_) rfl (by decide) (by kernel_rfl) (by kernel_rfl) (by kernel_rfl) (by kernel_rfl) (fun _ _ _ h => h) (Or.inl ⟨by rfl, ?_⟩) hS0 ?_
      rotate_left
      · intro wz hSz
        skip
        go_simp
        (try with_reducible rfl)
      try simp only [Act.put, List.setIfInBounds_toArray, List.set_cons_zero, List.set_cons_succ]
      refine anyL_take (i := 1) (oi := { dst := some 11, op := Go.Op.load 23 (Go.Operand.tmp 4), type := 23, pos := "model.go:63", after := #[], guard := none }) (v := ?_) rfl (by decide) (by kernel_rfl) (by kernel_rfl) (by kernel_rfl) (by kernel_rfl) (fun _ _ _ h => h) (Or.inl ⟨by rfl, ?_⟩) hS0 ?_
      rotate_left
      · intro wz hSz
        obtain ⟨⟨z0, z1, z2, z3, z4⟩, ⟨z5, z6, z7, z8, z9⟩⟩ := hSz
        go_simp
        (try with_reducible rfl)
      try simp only [Act.put, List.setIfInBounds_toArray, List.set_cons_zero, List.set_cons_succ]
      refine anyL_take (i := 3) (oi := { dst := some 13, op := Go.Op.move (Go.Operand.tmp 2), type := 105, pos := "model.go:63", after := #[], guard := none }) (v := ?_) rfl (by decide) (by kernel_rfl) (by kernel_rfl) (by kernel_rfl) (by kernel_rfl) (fun _ _ _ h => h) (Or.inl ⟨by rfl, ?_⟩) hS0 ?_
      rotate_left
      · intro wz hSz
        skip
        go_simp
        (try with_reducible rfl)
      try simp only [Act.put, List.setIfInBounds_toArray, List.set_cons_zero, List.set_cons_succ]
      refine anyL_take (i := 4) (oi := { dst := some 14, op := Go.Op.load 23 (Go.Operand.tmp 5), type := 23, pos := "model.go:63", after := #[], guard := none }) (v := ?_) rfl (by decide) (by kernel_rfl) (by kernel_rfl) (by kernel_rfl) (by kernel_rfl) (fun _ _ _ h => h) (Or.inl ⟨by rfl, ?_⟩) hS0 ?_
      rotate_left
      · intro wz hSz
        obtain ⟨⟨z0, z1, z2, z3, z4⟩, ⟨z5, z6, z7, z8, z9⟩⟩ := hSz
        go_simp
        (try with_reducible rfl)
      try simp only [Act.put, List.setIfInBounds_toArray, List.set_cons_zero, List.set_cons_succ]
      refine anyL_ready (rs := [2]) (by kernel_rfl) (by simp) ?_
      refine AllL.cons (o := { dst := some 12, op := Go.Op.call { callee := Go.Callee.value (Go.Operand.tmp 10), args := #[Go.Operand.tmp 11], argTypes := #[23] }, type := 2, pos := "model.go:63", after := #[{ on := 0, ground := Go.Ground.data }, { on := 1, ground := Go.Ground.data }], guard := none }) rfl (fun K' hK => ?_) AllL.nil
      rw [if_pos (by rfl)]
      go_simp
      go_at_call 72
      refine (cA1 _).mono ?_
      rintro e1 w4 ⟨rfl, b4⟩
      have S4 := hSB _ _ b4 hS0
      refine hK _ _ S4 ?_
      clear hK K'
      try simp only [Act.put, List.setIfInBounds_toArray, List.set_cons_zero, List.set_cons_succ]
      refine anyL_ready (rs := [5]) (by kernel_rfl) (by simp) ?_
      refine AllL.cons (o := { dst := some 15, op := Go.Op.call { callee := Go.Callee.value (Go.Operand.tmp 13), args := #[Go.Operand.tmp 14], argTypes := #[23] }, type := 2, pos := "model.go:63", after := #[{ on := 3, ground := Go.Ground.data }, { on := 4, ground := Go.Ground.data }, { on := 2, ground := Go.Ground.chain }], guard := none }) rfl (fun K' hK => ?_) AllL.nil
      rw [if_pos (by rfl)]
      go_simp
      go_at_call 72
      refine (cA2 _).mono ?_
      rintro e1 w5 ⟨rfl, b5⟩
      have S5 := hSB _ _ b5 S4
      refine hK _ _ S5 ?_
      clear hK K'
      try simp only [Act.put, List.setIfInBounds_toArray, List.set_cons_zero, List.set_cons_succ]
      refine anyL_ready (rs := [6]) (by kernel_rfl) (by simp) ?_
      refine AllL.cons (o := { dst := some 16, op := Go.Op.call { callee := Go.Callee.value (Go.Operand.func 75), args := #[Go.Operand.tmp 12, Go.Operand.tmp 15], argTypes := #[2, 2] }, type := 3, pos := "model.go:63", after := #[{ on := 2, ground := Go.Ground.data }, { on := 5, ground := Go.Ground.data }, { on := 5, ground := Go.Ground.chain }], guard := none }) rfl (fun K' hK => ?_) AllL.nil
      rw [if_pos (by rfl)]
      go_simp
      go_at_call 75
      refine (cI _).mono ?_
      rintro e6 w9 ⟨rfl, rfl⟩
      refine hK _ _ S5 ?_
      clear hK K'
      try simp only [Act.put, List.setIfInBounds_toArray, List.set_cons_zero, List.set_cons_succ]
      refine anyL_take (i := 7) (oi := { dst := some 9, op := Go.Op.assign (Go.Operand.tmp 16), type := 3, pos := "model.go:63", after := #[{ on := 6, ground := Go.Ground.data }, { on := 6, ground := Go.Ground.chain }, { on := 0, ground := Go.Ground.phase }, { on := 1, ground := Go.Ground.phase }, { on := 2, ground := Go.Ground.phase }, { on := 3, ground := Go.Ground.phase }, { on := 4, ground := Go.Ground.phase }, { on := 5, ground := Go.Ground.phase }, { on := 6, ground := Go.Ground.phase }], guard := none }) (v := ?_) rfl (by decide) (by kernel_rfl) (by kernel_rfl) (by kernel_rfl) (by kernel_rfl) (fun _ _ _ h => h) (Or.inl ⟨by rfl, ?_⟩) S5 ?_
      rotate_left
      · intro wz hSz
        skip
        go_simp
        (try with_reducible rfl)
      try simp only [Act.put, List.setIfInBounds_toArray, List.set_cons_zero, List.set_cons_succ]
      refine anyL_done (by kernel_rfl) ?_ _
      have b35 : Below W3.heap.size W3 w5 := hrf.trans (b4.trans (b5.mono b4.size))
      clear hS0 S4 S5 hSB b4 b5 hrf
      obtain ⟨hR, ⟨⟨e0, e1, e2, e3, e4⟩, ⟨f0, f1, f2, f3, f4⟩⟩, hB⟩ := HF.out _ b35
      have r0 := hR.cell 0
      have r1 := hR.cell 1
      have r2 := hR.cell 2
      have r3 := hR.cell 3
      have r4 := hR.cell 4
      simp only [List.getElem?_toArray, List.getElem?_cons_zero, List.getElem?_cons_succ] at r0 r1 r2 r3 r4
      have t0 := hR.fr 0
      have t1 := hR.fr 1
      have t2 := hR.fr 2
      have t3 := hR.fr 3
      have t4 := hR.fr 4
      have HBB := Lib.hid (HS.out _ (.string y.id) (.string y.title) (.string y.link) (.string y.content) (.int .i64 y.upd) hB)
      clear hR hB HF HS
      go_wp2
      exact bodyPost_ret (v := .agg #[.string y.id, .string y.title, .string y.link, .string y.content, .int .i64 y.upd]) (by simp [results, Tryz.results71, go_sem, mset_same, r0, r1, r2, r3, r4]) rfl ⟨rfl, HBB.out⟩
    · rw [if_neg hn]
      go_enter Tryz.func71, Tryz.ntmps71
      go_upto_region 1 with fail
      simp only [← hW3]
      clear hW3 e0 e1 e2 e3 e4 f0 f1 f2 f3 f4
      go_wp2
      refine wp_region_late (S := fun w' => (w'.cell? ⟨w.heap.size, 0, none⟩ = some (.string x.id) ∧ w'.cell? ⟨w.heap.size, 1, none⟩ = some (.string x.title) ∧ w'.cell? ⟨w.heap.size, 2, none⟩ = some (.string x.link) ∧ w'.cell? ⟨w.heap.size, 3, none⟩ = some (.string x.content) ∧ w'.cell? ⟨w.heap.size, 4, none⟩ = some (.int .i64 x.upd)) ∧ (w'.cell? ⟨w.heap.size + 1, 0, none⟩ = some (.string y.id) ∧ w'.cell? ⟨w.heap.size + 1, 1, none⟩ = some (.string y.title) ∧ w'.cell? ⟨w.heap.size + 1, 2, none⟩ = some (.string y.link) ∧ w'.cell? ⟨w.heap.size + 1, 3, none⟩ = some (.string y.content) ∧ w'.cell? ⟨w.heap.size + 1, 4, none⟩ = some (.int .i64 y.upd))) (D := []) (by kernel_rfl) ?_
      refine anyL_take (i := 0) (oi := { dst := some 10, op := Go.Op.move (Go.Operand.tmp 2), type := 105, pos := "model.go:63", after := #[], guard := none }) (v := ?_) rfl (by decide) (by kernel_rfl) (by kernel_rfl) (by kernel_rfl) (by kernel_rfl) (fun _ _ _ h => h) (Or.inl ⟨by rfl, ?_⟩) hS0 ?_
      rotate_left
      · intro wz hSz
        skip
        go_simp
        (try with_reducible rfl)
      try simp only [Act.put, List.setIfInBounds_toArray, List.set_cons_zero, List.set_cons_succ]
      refine anyL_take (i := 1) (oi := { dst := some 11, op := Go.Op.load 23 (Go.Operand.tmp 4), type := 23, pos := "model.go:63", after := #[], guard := none }) (v := ?_) rfl (by decide) (by kernel_rfl) (by kernel_rfl) (by kernel_rfl) (by kernel_rfl) (fun _ _ _ h => h) (Or.inl ⟨by rfl, ?_⟩) hS0 ?_
      rotate_left
      · intro wz hSz
        obtain ⟨⟨z0, z1, z2, z3, z4⟩, ⟨z5, z6, z7, z8, z9⟩⟩ := hSz
        go_simp
        (try with_reducible rfl)
      try simp only [Act.put, List.setIfInBounds_toArray, List.set_cons_zero, List.set_cons_succ]
      refine anyL_take (i := 3) (oi := { dst := some 13, op := Go.Op.move (Go.Operand.tmp 2), type := 105, pos := "model.go:63", after := #[], guard := none }) (v := ?_) rfl (by decide) (by kernel_rfl) (by kernel_rfl) (by kernel_rfl) (by kernel_rfl) (fun _ _ _ h => h) (Or.inl ⟨by rfl, ?_⟩) hS0 ?_
      rotate_left
      · intro wz hSz
        skip
        go_simp
        (try with_reducible rfl)
      try simp only [Act.put, List.setIfInBounds_toArray, List.set_cons_zero, List.set_cons_succ]
      refine anyL_take (i := 4) (oi := { dst := some 14, op := Go.Op.load 23 (Go.Operand.tmp 5), type := 23, pos := "model.go:63", after := #[], guard := none }) (v := ?_) rfl (by decide) (by kernel_rfl) (by kernel_rfl) (by kernel_rfl) (by kernel_rfl) (fun _ _ _ h => h) (Or.inl ⟨by rfl, ?_⟩) hS0 ?_
      rotate_left
      · intro wz hSz
        obtain ⟨⟨z0, z1, z2, z3, z4⟩, ⟨z5, z6, z7, z8, z9⟩⟩ := hSz
        go_simp
        (try with_reducible rfl)
      try simp only [Act.put, List.setIfInBounds_toArray, List.set_cons_zero, List.set_cons_succ]
      refine anyL_ready (rs := [2]) (by kernel_rfl) (by simp) ?_
      refine AllL.cons (o := { dst := some 12, op := Go.Op.call { callee := Go.Callee.value (Go.Operand.tmp 10), args := #[Go.Operand.tmp 11], argTypes := #[23] }, type := 2, pos := "model.go:63", after := #[{ on := 0, ground := Go.Ground.data }, { on := 1, ground := Go.Ground.data }], guard := none }) rfl (fun K' hK => ?_) AllL.nil
      rw [if_pos (by rfl)]
      go_simp
      go_at_call 72
      refine (cA1 _).mono ?_
      rintro e1 w4 ⟨rfl, b4⟩
      have S4 := hSB _ _ b4 hS0
      refine hK _ _ S4 ?_
      clear hK K'
      try simp only [Act.put, List.setIfInBounds_toArray, List.set_cons_zero, List.set_cons_succ]
      refine anyL_ready (rs := [5]) (by kernel_rfl) (by simp) ?_
      refine AllL.cons (o := { dst := some 15, op := Go.Op.call { callee := Go.Callee.value (Go.Operand.tmp 13), args := #[Go.Operand.tmp 14], argTypes := #[23] }, type := 2, pos := "model.go:63", after := #[{ on := 3, ground := Go.Ground.data }, { on := 4, ground := Go.Ground.data }, { on := 2, ground := Go.Ground.chain }], guard := none }) rfl (fun K' hK => ?_) AllL.nil
      rw [if_pos (by rfl)]
      go_simp
      go_at_call 72
      refine (cA2 _).mono ?_
      rintro e1 w5 ⟨rfl, b5⟩
      have S5 := hSB _ _ b5 S4
      refine hK _ _ S5 ?_
      clear hK K'
      try simp only [Act.put, List.setIfInBounds_toArray, List.set_cons_zero, List.set_cons_succ]
      refine anyL_ready (rs := [6]) (by kernel_rfl) (by simp) ?_
      refine AllL.cons (o := { dst := some 16, op := Go.Op.call { callee := Go.Callee.value (Go.Operand.func 75), args := #[Go.Operand.tmp 12, Go.Operand.tmp 15], argTypes := #[2, 2] }, type := 3, pos := "model.go:63", after := #[{ on := 2, ground := Go.Ground.data }, { on := 5, ground := Go.Ground.data }, { on := 5, ground := Go.Ground.chain }], guard := none }) rfl (fun K' hK => ?_) AllL.nil
      rw [if_pos (by rfl)]
      go_simp
      go_at_call 75
      refine (cI _).mono ?_
      rintro e6 w9 ⟨rfl, rfl⟩
      refine hK _ _ S5 ?_
      clear hK K'
      try simp only [Act.put, List.setIfInBounds_toArray, List.set_cons_zero, List.set_cons_succ]
      refine anyL_take (i := 7) (oi := { dst := some 9, op := Go.Op.assign (Go.Operand.tmp 16), type := 3, pos := "model.go:63", after := #[{ on := 6, ground := Go.Ground.data }, { on := 6, ground := Go.Ground.chain }, { on := 0, ground := Go.Ground.phase }, { on := 1, ground := Go.Ground.phase }, { on := 2, ground := Go.Ground.phase }, { on := 3, ground := Go.Ground.phase }, { on := 4, ground := Go.Ground.phase }, { on := 5, ground := Go.Ground.phase }, { on := 6, ground := Go.Ground.phase }], guard := none }) (v := ?_) rfl (by decide) (by kernel_rfl) (by kernel_rfl) (by kernel_rfl) (by kernel_rfl) (fun _ _ _ h => h) (Or.inl ⟨by rfl, ?_⟩) S5 ?_
      rotate_left
      · intro wz hSz
        skip
        go_simp
        (try with_reducible rfl)
      try simp only [Act.put, List.setIfInBounds_toArray, List.set_cons_zero, List.set_cons_succ]
      refine anyL_done (by kernel_rfl) ?_ _
      have b35 : Below W3.heap.size W3 w5 := hrf.trans (b4.trans (b5.mono b4.size))
      clear hS0 S4 S5 hSB b4 b5 hrf
      obtain ⟨hR, ⟨⟨e0, e1, e2, e3, e4⟩, ⟨f0, f1, f2, f3, f4⟩⟩, hB⟩ := HF.out _ b35
      have r0 := hR.cell 0
      have r1 := hR.cell 1
      have r2 := hR.cell 2
      have r3 := hR.cell 3
      have r4 := hR.cell 4
      simp only [List.getElem?_toArray, List.getElem?_cons_zero, List.getElem?_cons_succ] at r0 r1 r2 r3 r4
      have t0 := hR.fr 0
      have t1 := hR.fr 1
      have t2 := hR.fr 2
      have t3 := hR.fr 3
      have t4 := hR.fr 4
      have HBB := Lib.hid (HS.out _ (.string x.id) (.string x.title) (.string x.link) (.string x.content) (.int .i64 x.upd) hB)
      clear hR hB HF HS
      go_wp2
      exact bodyPost_ret (v := .agg #[.string x.id, .string x.title, .string x.link, .string x.content, .int .i64 x.upd]) (by simp [results, Tryz.results71, go_sem, mset_same, r0, r1, r2, r3, r4]) rfl ⟨rfl, HBB.out⟩
  subst hU
  rw [show lexI 0 C = C from rfl]
  by_cases hn : C < 0
  · rw [if_pos hn]
    go_enter Tryz.func71, Tryz.ntmps71
    go_upto_region 1 with fail
    simp only [← hW3]
    clear hW3 e0 e1 e2 e3 e4 f0 f1 f2 f3 f4
    go_wp2
    refine wp_region_late (S := fun w' => (w'.cell? ⟨w.heap.size, 0, none⟩ = some (.string x.id) ∧ w'.cell? ⟨w.heap.size, 1, none⟩ = some (.string x.title) ∧ w'.cell? ⟨w.heap.size, 2, none⟩ = some (.string x.link) ∧ w'.cell? ⟨w.heap.size, 3, none⟩ = some (.string x.content) ∧ w'.cell? ⟨w.heap.size, 4, none⟩ = some (.int .i64 x.upd)) ∧ (w'.cell? ⟨w.heap.size + 1, 0, none⟩ = some (.string y.id) ∧ w'.cell? ⟨w.heap.size + 1, 1, none⟩ = some (.string y.title) ∧ w'.cell? ⟨w.heap.size + 1, 2, none⟩ = some (.string y.link) ∧ w'.cell? ⟨w.heap.size + 1, 3, none⟩ = some (.string y.content) ∧ w'.cell? ⟨w.heap.size + 1, 4, none⟩ = some (.int .i64 y.upd))) (D := []) (by kernel_rfl) ?_
    refine anyL_take (i := 0) (oi := { dst := some 10, op := Go.Op.move (Go.Operand.tmp 2), type := 105, pos := "model.go:63", after := #[], guard := none }) (v := ?_) rfl (by decide) (by kernel_rfl) (by kernel_rfl) (by kernel_rfl) (by kernel_rfl) (fun _ _ _ h => h) (Or.inl ⟨by rfl, ?_⟩) hS0 ?_
    rotate_left
    · intro wz hSz
      skip
      go_simp
      (try with_reducible rfl)
    try simp only [Act.put, List.setIfInBounds_toArray, List.set_cons_zero, List.set_cons_succ]
    refine anyL_take (i := 1) (oi := { dst := some 11, op := Go.Op.load 23 (Go.Operand.tmp 4), type := 23, pos := "model.go:63", after := #[], guard := none }) (v := ?_) rfl (by decide) (by kernel_rfl) (by kernel_rfl) (by kernel_rfl) (by kernel_rfl) (fun _ _ _ h => h) (Or.inl ⟨by rfl, ?_⟩) hS0 ?_
    rotate_left
    · intro wz hSz
      obtain ⟨⟨z0, z1, z2, z3, z4⟩, ⟨z5, z6, z7, z8, z9⟩⟩ := hSz
      go_simp
      (try with_reducible rfl)
    try simp only [Act.put, List.setIfInBounds_toArray, List.set_cons_zero, List.set_cons_succ]
    refine anyL_take (i := 3) (oi := { dst := some 13, op := Go.Op.move (Go.Operand.tmp 2), type := 105, pos := "model.go:63", after := #[], guard := none }) (v := ?_) rfl (by decide) (by kernel_rfl) (by kernel_rfl) (by kernel_rfl) (by kernel_rfl) (fun _ _ _ h => h) (Or.inl ⟨by rfl, ?_⟩) hS0 ?_
    rotate_left
    · intro wz hSz
      skip
      go_simp
      (try with_reducible rfl)
    try simp only [Act.put, List.setIfInBounds_toArray, List.set_cons_zero, List.set_cons_succ]
    refine anyL_take (i := 4) (oi := { dst := some 14, op := Go.Op.load 23 (Go.Operand.tmp 5), type := 23, pos := "model.go:63", after := #[], guard := none }) (v := ?_) rfl (by decide) (by kernel_rfl) (by kernel_rfl) (by kernel_rfl) (by kernel_rfl) (fun _ _ _ h => h) (Or.inl ⟨by rfl, ?_⟩) hS0 ?_
    rotate_left
    · intro wz hSz
      obtain ⟨⟨z0, z1, z2, z3, z4⟩, ⟨z5, z6, z7, z8, z9⟩⟩ := hSz
      go_simp
      (try with_reducible rfl)
    try simp only [Act.put, List.setIfInBounds_toArray, List.set_cons_zero, List.set_cons_succ]
    refine anyL_ready (rs := [2]) (by kernel_rfl) (by simp) ?_
    refine AllL.cons (o := { dst := some 12, op := Go.Op.call { callee := Go.Callee.value (Go.Operand.tmp 10), args := #[Go.Operand.tmp 11], argTypes := #[23] }, type := 2, pos := "model.go:63", after := #[{ on := 0, ground := Go.Ground.data }, { on := 1, ground := Go.Ground.data }], guard := none }) rfl (fun K' hK => ?_) AllL.nil
    rw [if_pos (by rfl)]
    go_simp
    go_at_call 72
    refine (cA1 _).mono ?_
    rintro e1 w4 ⟨rfl, b4⟩
    have S4 := hSB _ _ b4 hS0
    refine hK _ _ S4 ?_
    clear hK K'
    try simp only [Act.put, List.setIfInBounds_toArray, List.set_cons_zero, List.set_cons_succ]
    refine anyL_ready (rs := [5]) (by kernel_rfl) (by simp) ?_
    refine AllL.cons (o := { dst := some 15, op := Go.Op.call { callee := Go.Callee.value (Go.Operand.tmp 13), args := #[Go.Operand.tmp 14], argTypes := #[23] }, type := 2, pos := "model.go:63", after := #[{ on := 3, ground := Go.Ground.data }, { on := 4, ground := Go.Ground.data }, { on := 2, ground := Go.Ground.chain }], guard := none }) rfl (fun K' hK => ?_) AllL.nil
    rw [if_pos (by rfl)]
    go_simp
    go_at_call 72
    refine (cA2 _).mono ?_
    rintro e1 w5 ⟨rfl, b5⟩
    have S5 := hSB _ _ b5 S4
    refine hK _ _ S5 ?_
    clear hK K'
    try simp only [Act.put, List.setIfInBounds_toArray, List.set_cons_zero, List.set_cons_succ]
    refine anyL_ready (rs := [6]) (by kernel_rfl) (by simp) ?_
    refine AllL.cons (o := { dst := some 16, op := Go.Op.call { callee := Go.Callee.value (Go.Operand.func 75), args := #[Go.Operand.tmp 12, Go.Operand.tmp 15], argTypes := #[2, 2] }, type := 3, pos := "model.go:63", after := #[{ on := 2, ground := Go.Ground.data }, { on := 5, ground := Go.Ground.data }, { on := 5, ground := Go.Ground.chain }], guard := none }) rfl (fun K' hK => ?_) AllL.nil
    rw [if_pos (by rfl)]
    go_simp
    go_at_call 75
    refine (cI _).mono ?_
    rintro e6 w9 ⟨rfl, rfl⟩
    refine hK _ _ S5 ?_
    clear hK K'
    try simp only [Act.put, List.setIfInBounds_toArray, List.set_cons_zero, List.set_cons_succ]
    refine anyL_take (i := 7) (oi := { dst := some 9, op := Go.Op.assign (Go.Operand.tmp 16), type := 3, pos := "model.go:63", after := #[{ on := 6, ground := Go.Ground.data }, { on := 6, ground := Go.Ground.chain }, { on := 0, ground := Go.Ground.phase }, { on := 1, ground := Go.Ground.phase }, { on := 2, ground := Go.Ground.phase }, { on := 3, ground := Go.Ground.phase }, { on := 4, ground := Go.Ground.phase }, { on := 5, ground := Go.Ground.phase }, { on := 6, ground := Go.Ground.phase }], guard := none }) (v := ?_) rfl (by decide) (by kernel_rfl) (by kernel_rfl) (by kernel_rfl) (by kernel_rfl) (fun _ _ _ h => h) (Or.inl ⟨by rfl, ?_⟩) S5 ?_
    rotate_left
    · intro wz hSz
      skip
      go_simp
      (try with_reducible rfl)
    try simp only [Act.put, List.setIfInBounds_toArray, List.set_cons_zero, List.set_cons_succ]
    refine anyL_done (by kernel_rfl) ?_ _
    have b35 : Below W3.heap.size W3 w5 := hrf.trans (b4.trans (b5.mono b4.size))
    have HB5 : Below w.heap.size w w5.drew := (HB.out.trans (b35.mono HB.out.size)).trans ((Below.refl _ _).drew)
    have k1 := K1.out _ HB5
    have hS5 : (w5.drew.cell? ⟨w.heap.size, 0, none⟩ = some (.string x.id) ∧ w5.drew.cell? ⟨w.heap.size, 1, none⟩ = some (.string x.title) ∧ w5.drew.cell? ⟨w.heap.size, 2, none⟩ = some (.string x.link) ∧ w5.drew.cell? ⟨w.heap.size, 3, none⟩ = some (.string x.content) ∧ w5.drew.cell? ⟨w.heap.size, 4, none⟩ = some (.int .i64 x.upd)) ∧ (w5.drew.cell? ⟨w.heap.size + 1, 0, none⟩ = some (.string y.id) ∧ w5.drew.cell? ⟨w.heap.size + 1, 1, none⟩ = some (.string y.title) ∧ w5.drew.cell? ⟨w.heap.size + 1, 2, none⟩ = some (.string y.link) ∧ w5.drew.cell? ⟨w.heap.size + 1, 3, none⟩ = some (.string y.content) ∧ w5.drew.cell? ⟨w.heap.size + 1, 4, none⟩ = some (.int .i64 y.upd)) := S5
    clear hS0 S4 S5 b4 b5 hrf
    go_wp2
    refine wp_region_late (S := fun w' => (w'.cell? ⟨w.heap.size, 0, none⟩ = some (.string x.id) ∧ w'.cell? ⟨w.heap.size, 1, none⟩ = some (.string x.title) ∧ w'.cell? ⟨w.heap.size, 2, none⟩ = some (.string x.link) ∧ w'.cell? ⟨w.heap.size, 3, none⟩ = some (.string x.content) ∧ w'.cell? ⟨w.heap.size, 4, none⟩ = some (.int .i64 x.upd)) ∧ (w'.cell? ⟨w.heap.size + 1, 0, none⟩ = some (.string y.id) ∧ w'.cell? ⟨w.heap.size + 1, 1, none⟩ = some (.string y.title) ∧ w'.cell? ⟨w.heap.size + 1, 2, none⟩ = some (.string y.link) ∧ w'.cell? ⟨w.heap.size + 1, 3, none⟩ = some (.string y.content) ∧ w'.cell? ⟨w.heap.size + 1, 4, none⟩ = some (.int .i64 y.upd))) (D := []) (by kernel_rfl) ?_
    refine anyL_take (i := 0) (oi := { dst := some 19, op := Go.Op.move (Go.Operand.tmp 3), type := 92, pos := "model.go:66", after := #[], guard := none }) (v := ?_) rfl (by decide) (by kernel_rfl) (by kernel_rfl) (by kernel_rfl) (by kernel_rfl) (fun _ _ _ h => h) (Or.inl ⟨by rfl, ?_⟩) hS5 ?_
    rotate_left
    · intro wz hSz
      skip
      go_simp
      (try with_reducible rfl)
    try simp only [Act.put, List.setIfInBounds_toArray, List.set_cons_zero, List.set_cons_succ]
    refine anyL_take (i := 1) (oi := { dst := some 20, op := Go.Op.load 23 (Go.Operand.tmp 4), type := 23, pos := "model.go:66", after := #[], guard := none }) (v := ?_) rfl (by decide) (by kernel_rfl) (by kernel_rfl) (by kernel_rfl) (by kernel_rfl) (fun _ _ _ h => h) (Or.inl ⟨by rfl, ?_⟩) hS5 ?_
    rotate_left
    · intro wz hSz
      obtain ⟨⟨z0, z1, z2, z3, z4⟩, ⟨z5, z6, z7, z8, z9⟩⟩ := hSz
      go_simp
      (try with_reducible rfl)
    try simp only [Act.put, List.setIfInBounds_toArray, List.set_cons_zero, List.set_cons_succ]
    refine anyL_take (i := 3) (oi := { dst := some 22, op := Go.Op.move (Go.Operand.tmp 3), type := 92, pos := "model.go:66", after := #[], guard := none }) (v := ?_) rfl (by decide) (by kernel_rfl) (by kernel_rfl) (by kernel_rfl) (by kernel_rfl) (fun _ _ _ h => h) (Or.inl ⟨by rfl, ?_⟩) hS5 ?_
    rotate_left
    · intro wz hSz
      skip
      go_simp
      (try with_reducible rfl)
    try simp only [Act.put, List.setIfInBounds_toArray, List.set_cons_zero, List.set_cons_succ]
    refine anyL_take (i := 4) (oi := { dst := some 23, op := Go.Op.load 23 (Go.Operand.tmp 5), type := 23, pos := "model.go:66", after := #[], guard := none }) (v := ?_) rfl (by decide) (by kernel_rfl) (by kernel_rfl) (by kernel_rfl) (by kernel_rfl) (fun _ _ _ h => h) (Or.inl ⟨by rfl, ?_⟩) hS5 ?_
    rotate_left
    · intro wz hSz
      obtain ⟨⟨z0, z1, z2, z3, z4⟩, ⟨z5, z6, z7, z8, z9⟩⟩ := hSz
      go_simp
      (try with_reducible rfl)
    try simp only [Act.put, List.setIfInBounds_toArray, List.set_cons_zero, List.set_cons_succ]
    refine anyL_ready (rs := [2]) (by kernel_rfl) (by simp) ?_
    refine AllL.cons (o := { dst := some 21, op := Go.Op.call { callee := Go.Callee.value (Go.Operand.tmp 19), args := #[Go.Operand.tmp 20], argTypes := #[23] }, type := 9, pos := "model.go:66", after := #[{ on := 0, ground := Go.Ground.data }, { on := 1, ground := Go.Ground.data }], guard := none }) rfl (fun K' hK => ?_) AllL.nil
    rw [if_pos (by rfl)]
    go_simp
    go_at_call 73
    refine k1.mono ?_
    rintro e1 w7 ⟨rfl, b7⟩
    have S7 := hSB _ _ b7 hS5
    refine hK _ _ S7 ?_
    clear hK K'
    have k2 := K2.out _ (HB5.trans (b7.mono HB5.size))
    clear HB5 k1
    try simp only [Act.put, List.setIfInBounds_toArray, List.set_cons_zero, List.set_cons_succ]
    refine anyL_ready (rs := [5]) (by kernel_rfl) (by simp) ?_
    refine AllL.cons (o := { dst := some 24, op := Go.Op.call { callee := Go.Callee.value (Go.Operand.tmp 22), args := #[Go.Operand.tmp 23], argTypes := #[23] }, type := 9, pos := "model.go:66", after := #[{ on := 3, ground := Go.Ground.data }, { on := 4, ground := Go.Ground.data }, { on := 2, ground := Go.Ground.chain }], guard := none }) rfl (fun K' hK => ?_) AllL.nil
    rw [if_pos (by rfl)]
    go_simp
    go_at_call 73
    refine k2.mono ?_
    rintro e1 w8 ⟨rfl, b8⟩
    have S8 := hSB _ _ b8 S7
    refine hK _ _ S8 ?_
    clear hK K'
    try simp only [Act.put, List.setIfInBounds_toArray, List.set_cons_zero, List.set_cons_succ]
    refine anyL_ready (rs := [6]) (by kernel_rfl) (by simp) ?_
    refine AllL.cons (o := { dst := some 25, op := Go.Op.call { callee := Go.Callee.value (Go.Operand.func 76), args := #[Go.Operand.tmp 21, Go.Operand.tmp 24], argTypes := #[9, 9] }, type := 3, pos := "model.go:66", after := #[{ on := 2, ground := Go.Ground.data }, { on := 5, ground := Go.Ground.data }, { on := 5, ground := Go.Ground.chain }], guard := none }) rfl (fun K' hK => ?_) AllL.nil
    rw [if_pos (by rfl)]
    go_simp
    go_at_call 76
    refine (cS _).mono ?_
    rintro e6 w9 ⟨rfl, rfl⟩
    refine hK _ _ S8 ?_
    clear hK K'
    try simp only [Act.put, List.setIfInBounds_toArray, List.set_cons_zero, List.set_cons_succ]
    refine anyL_take (i := 7) (oi := { dst := some 9, op := Go.Op.assign (Go.Operand.tmp 25), type := 3, pos := "model.go:66", after := #[{ on := 6, ground := Go.Ground.data }, { on := 6, ground := Go.Ground.chain }, { on := 0, ground := Go.Ground.phase }, { on := 1, ground := Go.Ground.phase }, { on := 2, ground := Go.Ground.phase }, { on := 3, ground := Go.Ground.phase }, { on := 4, ground := Go.Ground.phase }, { on := 5, ground := Go.Ground.phase }, { on := 6, ground := Go.Ground.phase }], guard := none }) (v := ?_) rfl (by decide) (by kernel_rfl) (by kernel_rfl) (by kernel_rfl) (by kernel_rfl) (fun _ _ _ h => h) (Or.inl ⟨by rfl, ?_⟩) S8 ?_
    rotate_left
    · intro wz hSz
      skip
      go_simp
      (try with_reducible rfl)
    try simp only [Act.put, List.setIfInBounds_toArray, List.set_cons_zero, List.set_cons_succ]
    refine anyL_done (by kernel_rfl) ?_ _
    have b38 : Below W3.heap.size W3 w8 := b35.trans (((Below.refl _ _).drew.trans (b7.trans (b8.mono b7.size))).mono b35.size)
    clear hS5 S7 S8 hSB b7 b8 b35 k2
    obtain ⟨hR, ⟨⟨e0, e1, e2, e3, e4⟩, ⟨f0, f1, f2, f3, f4⟩⟩, hB⟩ := HF.out _ b38
    have r0 := hR.cell 0
    have r1 := hR.cell 1
    have r2 := hR.cell 2
    have r3 := hR.cell 3
    have r4 := hR.cell 4
    simp only [List.getElem?_toArray, List.getElem?_cons_zero, List.getElem?_cons_succ] at r0 r1 r2 r3 r4
    have t0 := hR.fr 0
    have t1 := hR.fr 1
    have t2 := hR.fr 2
    have t3 := hR.fr 3
    have t4 := hR.fr 4
    have HBB := Lib.hid (HS.out _ (.string y.id) (.string y.title) (.string y.link) (.string y.content) (.int .i64 y.upd) hB)
    clear hR hB HF HS
    go_wp2
    exact bodyPost_ret (v := .agg #[.string y.id, .string y.title, .string y.link, .string y.content, .int .i64 y.upd]) (by simp [results, Tryz.results71, go_sem, mset_same, r0, r1, r2, r3, r4]) rfl ⟨rfl, HBB.out⟩
  · rw [if_neg hn]
    go_enter Tryz.func71, Tryz.ntmps71
    go_upto_region 1 with fail
    simp only [← hW3]
    clear hW3 e0 e1 e2 e3 e4 f0 f1 f2 f3 f4
    go_wp2
    refine wp_region_late (S := fun w' => (w'.cell? ⟨w.heap.size, 0, none⟩ = some (.string x.id) ∧ w'.cell? ⟨w.heap.size, 1, none⟩ = some (.string x.title) ∧ w'.cell? ⟨w.heap.size, 2, none⟩ = some (.string x.link) ∧ w'.cell? ⟨w.heap.size, 3, none⟩ = some (.string x.content) ∧ w'.cell? ⟨w.heap.size, 4, none⟩ = some (.int .i64 x.upd)) ∧ (w'.cell? ⟨w.heap.size + 1, 0, none⟩ = some (.string y.id) ∧ w'.cell? ⟨w.heap.size + 1, 1, none⟩ = some (.string y.title) ∧ w'.cell? ⟨w.heap.size + 1, 2, none⟩ = some (.string y.link) ∧ w'.cell? ⟨w.heap.size + 1, 3, none⟩ = some (.string y.content) ∧ w'.cell? ⟨w.heap.size + 1, 4, none⟩ = some (.int .i64 y.upd))) (D := []) (by kernel_rfl) ?_
    refine anyL_take (i := 0) (oi := { dst := some 10, op := Go.Op.move (Go.Operand.tmp 2), type := 105, pos := "model.go:63", after := #[], guard := none }) (v := ?_) rfl (by decide) (by kernel_rfl) (by kernel_rfl) (by kernel_rfl) (by kernel_rfl) (fun _ _ _ h => h) (Or.inl ⟨by rfl, ?_⟩) hS0 ?_
    rotate_left
    · intro wz hSz
      skip
      go_simp
      (try with_reducible rfl)
    try simp only [Act.put, List.setIfInBounds_toArray, List.set_cons_zero, List.set_cons_succ]
    refine anyL_take (i := 1) (oi := { dst := some 11, op := Go.Op.load 23 (Go.Operand.tmp 4), type := 23, pos := "model.go:63", after := #[], guard := none }) (v := ?_) rfl (by decide) (by kernel_rfl) (by kernel_rfl) (by kernel_rfl) (by kernel_rfl) (fun _ _ _ h => h) (Or.inl ⟨by rfl, ?_⟩) hS0 ?_
    rotate_left
    · intro wz hSz
      obtain ⟨⟨z0, z1, z2, z3, z4⟩, ⟨z5, z6, z7, z8, z9⟩⟩ := hSz
      go_simp
      (try with_reducible rfl)
    try simp only [Act.put, List.setIfInBounds_toArray, List.set_cons_zero, List.set_cons_succ]
    refine anyL_take (i := 3) (oi := { dst := some 13, op := Go.Op.move (Go.Operand.tmp 2), type := 105, pos := "model.go:63", after := #[], guard := none }) (v := ?_) rfl (by decide) (by kernel_rfl) (by kernel_rfl) (by kernel_rfl) (by kernel_rfl) (fun _ _ _ h => h) (Or.inl ⟨by rfl, ?_⟩) hS0 ?_
    rotate_left
    · intro wz hSz
      skip
      go_simp
      (try with_reducible rfl)
    try simp only [Act.put, List.setIfInBounds_toArray, List.set_cons_zero, List.set_cons_succ]
    refine anyL_take (i := 4) (oi := { dst := some 14, op := Go.Op.load 23 (Go.Operand.tmp 5), type := 23, pos := "model.go:63", after := #[], guard := none }) (v := ?_) rfl (by decide) (by kernel_rfl) (by kernel_rfl) (by kernel_rfl) (by kernel_rfl) (fun _ _ _ h => h) (Or.inl ⟨by rfl, ?_⟩) hS0 ?_
    rotate_left
    · intro wz hSz
      obtain ⟨⟨z0, z1, z2, z3, z4⟩, ⟨z5, z6, z7, z8, z9⟩⟩ := hSz
      go_simp
      (try with_reducible rfl)
    try simp only [Act.put, List.setIfInBounds_toArray, List.set_cons_zero, List.set_cons_succ]
    refine anyL_ready (rs := [2]) (by kernel_rfl) (by simp) ?_
    refine AllL.cons (o := { dst := some 12, op := Go.Op.call { callee := Go.Callee.value (Go.Operand.tmp 10), args := #[Go.Operand.tmp 11], argTypes := #[23] }, type := 2, pos := "model.go:63", after := #[{ on := 0, ground := Go.Ground.data }, { on := 1, ground := Go.Ground.data }], guard := none }) rfl (fun K' hK => ?_) AllL.nil
    rw [if_pos (by rfl)]
    go_simp
    go_at_call 72
    refine (cA1 _).mono ?_
    rintro e1 w4 ⟨rfl, b4⟩
    have S4 := hSB _ _ b4 hS0
    refine hK _ _ S4 ?_
    clear hK K'
    try simp only [Act.put, List.setIfInBounds_toArray, List.set_cons_zero, List.set_cons_succ]
    refine anyL_ready (rs := [5]) (by kernel_rfl) (by simp) ?_
    refine AllL.cons (o := { dst := some 15, op := Go.Op.call { callee := Go.Callee.value (Go.Operand.tmp 13), args := #[Go.Operand.tmp 14], argTypes := #[23] }, type := 2, pos := "model.go:63", after := #[{ on := 3, ground := Go.Ground.data }, { on := 4, ground := Go.Ground.data }, { on := 2, ground := Go.Ground.chain }], guard := none }) rfl (fun K' hK => ?_) AllL.nil
    rw [if_pos (by rfl)]
    go_simp
    go_at_call 72
    refine (cA2 _).mono ?_
    rintro e1 w5 ⟨rfl, b5⟩
    have S5 := hSB _ _ b5 S4
    refine hK _ _ S5 ?_
    clear hK K'
    try simp only [Act.put, List.setIfInBounds_toArray, List.set_cons_zero, List.set_cons_succ]
    refine anyL_ready (rs := [6]) (by kernel_rfl) (by simp) ?_
    refine AllL.cons (o := { dst := some 16, op := Go.Op.call { callee := Go.Callee.value (Go.Operand.func 75), args := #[Go.Operand.tmp 12, Go.Operand.tmp 15], argTypes := #[2, 2] }, type := 3, pos := "model.go:63", after := #[{ on := 2, ground := Go.Ground.data }, { on := 5, ground := Go.Ground.data }, { on := 5, ground := Go.Ground.chain }], guard := none }) rfl (fun K' hK => ?_) AllL.nil
    rw [if_pos (by rfl)]
    go_simp
    go_at_call 75
    refine (cI _).mono ?_
    rintro e6 w9 ⟨rfl, rfl⟩
    refine hK _ _ S5 ?_
    clear hK K'
    try simp only [Act.put, List.setIfInBounds_toArray, List.set_cons_zero, List.set_cons_succ]
    refine anyL_take (i := 7) (oi := { dst := some 9, op := Go.Op.assign (Go.Operand.tmp 16), type := 3, pos := "model.go:63", after := #[{ on := 6, ground := Go.Ground.data }, { on := 6, ground := Go.Ground.chain }, { on := 0, ground := Go.Ground.phase }, { on := 1, ground := Go.Ground.phase }, { on := 2, ground := Go.Ground.phase }, { on := 3, ground := Go.Ground.phase }, { on := 4, ground := Go.Ground.phase }, { on := 5, ground := Go.Ground.phase }, { on := 6, ground := Go.Ground.phase }], guard := none }) (v := ?_) rfl (by decide) (by kernel_rfl) (by kernel_rfl) (by kernel_rfl) (by kernel_rfl) (fun _ _ _ h => h) (Or.inl ⟨by rfl, ?_⟩) S5 ?_
    rotate_left
    · intro wz hSz
      skip
      go_simp
      (try with_reducible rfl)
    try simp only [Act.put, List.setIfInBounds_toArray, List.set_cons_zero, List.set_cons_succ]
    refine anyL_done (by kernel_rfl) ?_ _
    have b35 : Below W3.heap.size W3 w5 := hrf.trans (b4.trans (b5.mono b4.size))
    have HB5 : Below w.heap.size w w5.drew := (HB.out.trans (b35.mono HB.out.size)).trans ((Below.refl _ _).drew)
    have k1 := K1.out _ HB5
    have hS5 : (w5.drew.cell? ⟨w.heap.size, 0, none⟩ = some (.string x.id) ∧ w5.drew.cell? ⟨w.heap.size, 1, none⟩ = some (.string x.title) ∧ w5.drew.cell? ⟨w.heap.size, 2, none⟩ = some (.string x.link) ∧ w5.drew.cell? ⟨w.heap.size, 3, none⟩ = some (.string x.content) ∧ w5.drew.cell? ⟨w.heap.size, 4, none⟩ = some (.int .i64 x.upd)) ∧ (w5.drew.cell? ⟨w.heap.size + 1, 0, none⟩ = some (.string y.id) ∧ w5.drew.cell? ⟨w.heap.size + 1, 1, none⟩ = some (.string y.title) ∧ w5.drew.cell? ⟨w.heap.size + 1, 2, none⟩ = some (.string y.link) ∧ w5.drew.cell? ⟨w.heap.size + 1, 3, none⟩ = some (.string y.content) ∧ w5.drew.cell? ⟨w.heap.size + 1, 4, none⟩ = some (.int .i64 y.upd)) := S5
    clear hS0 S4 S5 b4 b5 hrf
    go_wp2
    refine wp_region_late (S := fun w' => (w'.cell? ⟨w.heap.size, 0, none⟩ = some (.string x.id) ∧ w'.cell? ⟨w.heap.size, 1, none⟩ = some (.string x.title) ∧ w'.cell? ⟨w.heap.size, 2, none⟩ = some (.string x.link) ∧ w'.cell? ⟨w.heap.size, 3, none⟩ = some (.string x.content) ∧ w'.cell? ⟨w.heap.size, 4, none⟩ = some (.int .i64 x.upd)) ∧ (w'.cell? ⟨w.heap.size + 1, 0, none⟩ = some (.string y.id) ∧ w'.cell? ⟨w.heap.size + 1, 1, none⟩ = some (.string y.title) ∧ w'.cell? ⟨w.heap.size + 1, 2, none⟩ = some (.string y.link) ∧ w'.cell? ⟨w.heap.size + 1, 3, none⟩ = some (.string y.content) ∧ w'.cell? ⟨w.heap.size + 1, 4, none⟩ = some (.int .i64 y.upd))) (D := []) (by kernel_rfl) ?_
    refine anyL_take (i := 0) (oi := { dst := some 19, op := Go.Op.move (Go.Operand.tmp 3), type := 92, pos := "model.go:66", after := #[], guard := none }) (v := ?_) rfl (by decide) (by kernel_rfl) (by kernel_rfl) (by kernel_rfl) (by kernel_rfl) (fun _ _ _ h => h) (Or.inl ⟨by rfl, ?_⟩) hS5 ?_
    rotate_left
    · intro wz hSz
      skip
      go_simp
      (try with_reducible rfl)
    try simp only [Act.put, List.setIfInBounds_toArray, List.set_cons_zero, List.set_cons_succ]
    refine anyL_take (i := 1) (oi := { dst := some 20, op := Go.Op.load 23 (Go.Operand.tmp 4), type := 23, pos := "model.go:66", after := #[], guard := none }) (v := ?_) rfl (by decide) (by kernel_rfl) (by kernel_rfl) (by kernel_rfl) (by kernel_rfl) (fun _ _ _ h => h) (Or.inl ⟨by rfl, ?_⟩) hS5 ?_
    rotate_left
    · intro wz hSz
      obtain ⟨⟨z0, z1, z2, z3, z4⟩, ⟨z5, z6, z7, z8, z9⟩⟩ := hSz
      go_simp
      (try with_reducible rfl)
    try simp only [Act.put, List.setIfInBounds_toArray, List.set_cons_zero, List.set_cons_succ]
    refine anyL_take (i := 3) (oi := { dst := some 22, op := Go.Op.move (Go.Operand.tmp 3), type := 92, pos := "model.go:66", after := #[], guard := none }) (v := ?_) rfl (by decide) (by kernel_rfl) (by kernel_rfl) (by kernel_rfl) (by kernel_rfl) (fun _ _ _ h => h) (Or.inl ⟨by rfl, ?_⟩) hS5 ?_
    rotate_left
    · intro wz hSz
      skip
      go_simp
      (try with_reducible rfl)
    try simp only [Act.put, List.setIfInBounds_toArray, List.set_cons_zero, List.set_cons_succ]
    refine anyL_take (i := 4) (oi := { dst := some 23, op := Go.Op.load 23 (Go.Operand.tmp 5), type := 23, pos := "model.go:66", after := #[], guard := none }) (v := ?_) rfl (by decide) (by kernel_rfl) (by kernel_rfl) (by kernel_rfl) (by kernel_rfl) (fun _ _ _ h => h) (Or.inl ⟨by rfl, ?_⟩) hS5 ?_
    rotate_left
    · intro wz hSz
      obtain ⟨⟨z0, z1, z2, z3, z4⟩, ⟨z5, z6, z7, z8, z9⟩⟩ := hSz
      go_simp
      (try with_reducible rfl)
    try simp only [Act.put, List.setIfInBounds_toArray, List.set_cons_zero, List.set_cons_succ]
    refine anyL_ready (rs := [2]) (by kernel_rfl) (by simp) ?_
    refine AllL.cons (o := { dst := some 21, op := Go.Op.call { callee := Go.Callee.value (Go.Operand.tmp 19), args := #[Go.Operand.tmp 20], argTypes := #[23] }, type := 9, pos := "model.go:66", after := #[{ on := 0, ground := Go.Ground.data }, { on := 1, ground := Go.Ground.data }], guard := none }) rfl (fun K' hK => ?_) AllL.nil
    rw [if_pos (by rfl)]
    go_simp
    go_at_call 73
    refine k1.mono ?_
    rintro e1 w7 ⟨rfl, b7⟩
    have S7 := hSB _ _ b7 hS5
    refine hK _ _ S7 ?_
    clear hK K'
    have k2 := K2.out _ (HB5.trans (b7.mono HB5.size))
    clear HB5 k1
    try simp only [Act.put, List.setIfInBounds_toArray, List.set_cons_zero, List.set_cons_succ]
    refine anyL_ready (rs := [5]) (by kernel_rfl) (by simp) ?_
    refine AllL.cons (o := { dst := some 24, op := Go.Op.call { callee := Go.Callee.value (Go.Operand.tmp 22), args := #[Go.Operand.tmp 23], argTypes := #[23] }, type := 9, pos := "model.go:66", after := #[{ on := 3, ground := Go.Ground.data }, { on := 4, ground := Go.Ground.data }, { on := 2, ground := Go.Ground.chain }], guard := none }) rfl (fun K' hK => ?_) AllL.nil
    rw [if_pos (by rfl)]
    go_simp
    go_at_call 73
    refine k2.mono ?_
    rintro e1 w8 ⟨rfl, b8⟩
    have S8 := hSB _ _ b8 S7
    refine hK _ _ S8 ?_
    clear hK K'
    try simp only [Act.put, List.setIfInBounds_toArray, List.set_cons_zero, List.set_cons_succ]
    refine anyL_ready (rs := [6]) (by kernel_rfl) (by simp) ?_
    refine AllL.cons (o := { dst := some 25, op := Go.Op.call { callee := Go.Callee.value (Go.Operand.func 76), args := #[Go.Operand.tmp 21, Go.Operand.tmp 24], argTypes := #[9, 9] }, type := 3, pos := "model.go:66", after := #[{ on := 2, ground := Go.Ground.data }, { on := 5, ground := Go.Ground.data }, { on := 5, ground := Go.Ground.chain }], guard := none }) rfl (fun K' hK => ?_) AllL.nil
    rw [if_pos (by rfl)]
    go_simp
    go_at_call 76
    refine (cS _).mono ?_
    rintro e6 w9 ⟨rfl, rfl⟩
    refine hK _ _ S8 ?_
    clear hK K'
    try simp only [Act.put, List.setIfInBounds_toArray, List.set_cons_zero, List.set_cons_succ]
    refine anyL_take (i := 7) (oi := { dst := some 9, op := Go.Op.assign (Go.Operand.tmp 25), type := 3, pos := "model.go:66", after := #[{ on := 6, ground := Go.Ground.data }, { on := 6, ground := Go.Ground.chain }, { on := 0, ground := Go.Ground.phase }, { on := 1, ground := Go.Ground.phase }, { on := 2, ground := Go.Ground.phase }, { on := 3, ground := Go.Ground.phase }, { on := 4, ground := Go.Ground.phase }, { on := 5, ground := Go.Ground.phase }, { on := 6, ground := Go.Ground.phase }], guard := none }) (v := ?_) rfl (by decide) (by kernel_rfl) (by kernel_rfl) (by kernel_rfl) (by kernel_rfl) (fun _ _ _ h => h) (Or.inl ⟨by rfl, ?_⟩) S8 ?_
    rotate_left
    · intro wz hSz
      skip
      go_simp
      (try with_reducible rfl)
    try simp only [Act.put, List.setIfInBounds_toArray, List.set_cons_zero, List.set_cons_succ]
    refine anyL_done (by kernel_rfl) ?_ _
    have b38 : Below W3.heap.size W3 w8 := b35.trans (((Below.refl _ _).drew.trans (b7.trans (b8.mono b7.size))).mono b35.size)
    clear hS5 S7 S8 hSB b7 b8 b35 k2
    obtain ⟨hR, ⟨⟨e0, e1, e2, e3, e4⟩, ⟨f0, f1, f2, f3, f4⟩⟩, hB⟩ := HF.out _ b38
    have r0 := hR.cell 0
    have r1 := hR.cell 1
    have r2 := hR.cell 2
    have r3 := hR.cell 3
    have r4 := hR.cell 4
    simp only [List.getElem?_toArray, List.getElem?_cons_zero, List.getElem?_cons_succ] at r0 r1 r2 r3 r4
    have t0 := hR.fr 0
    have t1 := hR.fr 1
    have t2 := hR.fr 2
    have t3 := hR.fr 3
    have t4 := hR.fr 4
    have HBB := Lib.hid (HS.out _ (.string x.id) (.string x.title) (.string x.link) (.string x.content) (.int .i64 x.upd) hB)
    clear hR hB HF HS
    go_wp2
    exact bodyPost_ret (v := .agg #[.string x.id, .string x.title, .string x.link, .string x.content, .int .i64 x.upd]) (by simp [results, Tryz.results71, go_sem, mset_same, r0, r1, r2, r3, r4]) rfl ⟨rfl, HBB.out⟩
theorem ltE_if (x y : EntD) : ltE x y = if lexI (cmpU y.upd x.upd) (cmpL (ekL x) (ekL y)) < 0 then y else x := ltE_mx x y
set_option maxRecDepth 100000 in
set_option maxHeartbeats 4000000 in
theorem mc_LaterEntry (x y : EntD) (w : World) (k1 : ∀ wx, Below w.heap.size w wx → Calls Tryz.prog 73 #[EntV x] wx fun e w' => e = .returned (.string (ofBytes (ekL x))) ∧ Below wx.heap.size wx w') (k2 : ∀ wx, Below w.heap.size w wx → Calls Tryz.prog 73 #[EntV y] wx fun e w' => e = .returned (.string (ofBytes (ekL y))) ∧ Below wx.heap.size wx w') :
    Calls Tryz.prog 55 #[EntV x, EntV y] w fun e w' => e = .returned (EntV (ltE x y)) ∧ Below w.heap.size w w' := by
  unfold EntV at k1 k2
  obtain ⟨W3, hW3⟩ : ∃ W3, W3 = ((w.alloc (.cells #[.string x.id, .string x.title, .string x.link, .string x.content, .int .i64 x.upd] 23)).alloc (.cells #[.string y.id, .string y.title, .string y.link, .string y.content, .int .i64 y.upd] 23)).alloc (.cells #[.string ⟨#[]⟩, .string ⟨#[]⟩, .string ⟨#[]⟩, .string ⟨#[]⟩, .int .i64 0] 23) := ⟨_, rfl⟩
  have hB : Below w.heap.size w W3 := by rw [hW3]; exact (((Below.refl _ _).alloc (Nat.le_refl _) _).alloc (by simp) _).alloc (by simp; omega) _
  have hX : EBox W3 w.heap.size x := by rw [hW3]; exact ((EBox.new w x).below ((Below.refl _ _).alloc (Nat.le_refl _) _)).below ((Below.refl _ _).alloc (Nat.le_refl _) _)
  have hY : EBox W3 (w.heap.size + 1) y := by
    have := EBox.new (w.alloc (.cells #[.string x.id, .string x.title, .string x.link, .string x.content, .int .i64 x.upd] 23)) y
    rw [World.size_alloc] at this
    rw [hW3]
    exact this.below ((Below.refl _ _).alloc (Nat.le_refl _) _)
  have hR : MBlk W3 (w.heap.size + 2) #[.string ⟨#[]⟩, .string ⟨#[]⟩, .string ⟨#[]⟩, .string ⟨#[]⟩, .int .i64 0] 23 := by
    have := heap_alloc_new ((w.alloc (.cells #[.string x.id, .string x.title, .string x.link, .string x.content, .int .i64 x.upd] 23)).alloc (.cells #[.string y.id, .string y.title, .string y.link, .string y.content, .int .i64 y.upd] 23)) (.cells #[.string ⟨#[]⟩, .string ⟨#[]⟩, .string ⟨#[]⟩, .string ⟨#[]⟩, .int .i64 0] 23)
    rw [World.size_alloc, World.size_alloc] at this
    rw [hW3]
    exact this
  have cL := mc_laterE x y (ekL x) (ekL y) W3 (fun wx hb => k1 wx (hB.trans (hb.mono hB.size))) (fun wx hb => k2 wx (hB.trans (hb.mono hB.size)))
  obtain ⟨z, hz⟩ : ∃ z, ltE x y = z := ⟨_, rfl⟩
  have he : (if lexI (cmpU y.upd x.upd) (cmpL (ekL x) (ekL y)) < 0 then (.agg #[.string y.id, .string y.title, .string y.link, .string y.content, .int .i64 y.upd] : Value) else .agg #[.string x.id, .string x.title, .string x.link, .string x.content, .int .i64 x.upd]) = EntV z := by
    rw [← hz, ltE_if]
    split <;> rfl
  rw [he] at cL
  rw [hz]
  unfold EntV at cL ⊢
  have HR := Lib.hid hR
  have HB := Lib.hid hB
  obtain ⟨e0, e1, e2, e3, e4⟩ := hX
  obtain ⟨f0, f1, f2, f3, f4⟩ := hY
  clear k1 k2 hB hR he hz
  go_enter Tryz.func55, Tryz.ntmps55
  go_upto_region 1 with fail
  simp only [← hW3]
  clear hW3
  go_wp2_with fail
  refine cL.mono ?_
  rintro e w4 ⟨rfl, b4⟩
  have hR := HR.out.more b4
  have hB := HB.out.trans (b4.mono HB.out.size)
  have r0 := hR.cell 0
  have r1 := hR.cell 1
  have r2 := hR.cell 2
  have r3 := hR.cell 3
  have r4 := hR.cell 4
  simp only [List.getElem?_toArray, List.getElem?_cons_zero, List.getElem?_cons_succ] at r0 r1 r2 r3 r4
  have t0 := hR.fr 0
  have t1 := hR.fr 1
  have t2 := hR.fr 2
  have t3 := hR.fr 3
  have t4 := hR.fr 4
  have HBB := Lib.hid (show Below w.heap.size w (((((w4.setCell ⟨w.heap.size + 2, 0, none⟩ (.string z.id)).setCell ⟨w.heap.size + 2, 1, none⟩ (.string z.title)).setCell ⟨w.heap.size + 2, 2, none⟩ (.string z.link)).setCell ⟨w.heap.size + 2, 3, none⟩ (.string z.content)).setCell ⟨w.heap.size + 2, 4, none⟩ (.int .i64 z.upd)) from (((((hB.setCell (p := ⟨w.heap.size + 2, 0, none⟩) (by show _ ≤ w.heap.size + 2; omega) _).setCell (p := ⟨w.heap.size + 2, 1, none⟩) (by show _ ≤ w.heap.size + 2; omega) _).setCell (p := ⟨w.heap.size + 2, 2, none⟩) (by show _ ≤ w.heap.size + 2; omega) _).setCell (p := ⟨w.heap.size + 2, 3, none⟩) (by show _ ≤ w.heap.size + 2; omega) _).setCell (p := ⟨w.heap.size + 2, 4, none⟩) (by show _ ≤ w.heap.size + 2; omega) _))
  clear e0 e1 e2 e3 e4 f0 f1 f2 f3 f4 b4 cL hR hB HR HB
  go_wp2
  exact bodyPost_ret (v := .agg #[.string z.id, .string z.title, .string z.link, .string z.content, .int .i64 z.upd]) (by simp [results, Tryz.results55, go_sem, mset_same, r0, r1, r2, r3, r4]) rfl ⟨rfl, HBB.out⟩
end Go.Proofs.YtbfalppeifkjdaaGreatDoor
end
