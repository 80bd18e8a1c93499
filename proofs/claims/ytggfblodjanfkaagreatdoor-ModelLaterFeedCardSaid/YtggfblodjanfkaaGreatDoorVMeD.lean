/- Packed from the texts MeD. -/
import Derived.Test.YtggfblodjanfkaaGreatDoorVLate
import Derived.Test.YtggfblodjanfkaaGreatDoorVk3
import Derived.Test.YtggfblodjanfkaaGreatDoorVk6
import Derived.Test.YtggfblodjanfkaaGreatDoorVl2
section
namespace Go.Proofs.YtggfblodjanfkaaGreatDoor
open Go.RowKit Go.Maps
set_option maxRecDepth 100000 in
theorem mc_idE (x : EntD) (w : World) : Calls Tryz.prog 48 #[EntV x] w fun e w' => e = .returned (.string x.id) ∧ Below w.heap.size w w' := by
  obtain ⟨i, t, l, c, u⟩ := x
  unfold EntV
  dsimp only
  have hb : ∀ o : Obj, Below w.heap.size w (w.alloc o) := fun o => (Below.refl _ _).alloc (Nat.le_refl _) o
  have HB := Lib.hid hb
  clear hb
  go_enter Tryz.func48, Tryz.ntmps48
  go_wp2
  go_ret
  exact ⟨rfl, HB.out _⟩
set_option maxRecDepth 100000 in
set_option maxHeartbeats 16000000 in
theorem mc_listE (l : List EntD) (p : Option Addr) (c : Nat) (w : World) (hl : EntsAt w p l) (hz : ∀ x ∈ l, ESz x) (hn : l.length ≤ 100000000) (hT : HasUtf8 w) :
    Calls Tryz.prog 47 #[.slice p l.length c, .func (.func 26) #[] #[], .func (.func 18) #[] #[], .func (.func 48) #[] #[]] w fun e w' => e = .returned (.bool (okEs [] l)) ∧ Below w.heap.size w w' := by
  have hmm := @run_makeMap Tryz.prog
  have HL := Lib.hid hl
  have HZ := Lib.hid hz
  have HT := Lib.hid hT
  have hnz : (l.length : Int) ≤ 100000000 := by omega
  obtain ⟨R, hR⟩ : ∃ R, okEs [] l = R := ⟨_, rfl⟩
  rw [hR]
  have HD := Lib.hid (show R = okEs (l.take 0) (l.drop 0) from hR.symm)
  have hS0 : KySet (w.alloc (.map #[] 0)) w.heap.size [] := World.ownsMap_made (H := Unit) w Tryz.prog 9 (plainElem Tryz.prog 4)
  have hB0 : Below w.heap.size w (w.alloc (.map #[] 0)) := (Below.refl _ _).alloc (Nat.le_refl _) _
  clear hl hz hT hR
  go_enter Tryz.func47, Tryz.ntmps47
  go_wp2
  go_loopw [15] (fun q wr => ∃ i : Nat, i ≤ l.length ∧ q = .int .i64 (i : Int) ∧ R = okEs (l.take i) (l.drop i) ∧ KySet wr w.heap.size ((l.take i).map EntD.id).reverse ∧ Below w.heap.size w wr) (fun q _ => l.length - (RowKit.intOf q).toNat)
  case atStart => exact ⟨0, Nat.zero_le _, rfl, HD.out, hS0, hB0⟩
  case round =>
    clear hmm hS0 hB0 HD
    obtain ⟨i, hi, rfl, hrel, hS, hbr⟩ := hrel
    have hzr := hbr.size
    have hSlt := hS.lt
    by_cases hlt : i < l.length
    · have hiz : (i : Int) < (l.length : Int) := by omega
      obtain ⟨a, rfl, a0, a1, a2, a3, a4⟩ := HL.out.below hbr i hlt
      rw [okEs_at l i hlt] at hrel
      have htk : l.take (i + 1) = l.take i ++ [l[i]] := List.take_succ_eq_append_getElem hlt
      obtain ⟨x, hx⟩ : ∃ x, l[i] = x := ⟨_, rfl⟩
      have hxz := HZ.out x (by rw [← hx]; exact List.getElem_mem _)
      rw [hx] at hrel htk a0 a1 a2 a3 a4
      obtain ⟨aa, haa⟩ : ∃ aa, a.add (i * 5) = aa := ⟨_, rfl⟩
      rw [haa] at a0 a1 a2 a3 a4
      simp only [Addr.add, Nat.reduceEqDiff, ↓reduceIte] at a1 a2 a3 a4
      obtain ⟨W2, hW2⟩ : ∃ W2, W2 = wr.alloc (.cells #[.string x.id, .string x.title, .string x.link, .string x.content, .int .i64 x.upd] 35) := ⟨_, rfl⟩
      have hb2 : Below wr.heap.size wr W2 := by rw [hW2]; exact (Below.refl _ _).alloc (Nat.le_refl _) _
      have hX : W2.cell? ⟨wr.heap.size, 0, none⟩ = some (.string x.id) ∧ W2.cell? ⟨wr.heap.size, 1, none⟩ = some (.string x.title) ∧ W2.cell? ⟨wr.heap.size, 2, none⟩ = some (.string x.link) ∧ W2.cell? ⟨wr.heap.size, 3, none⟩ = some (.string x.content) ∧ W2.cell? ⟨wr.heap.size, 4, none⟩ = some (.int .i64 x.upd) := by
        rw [hW2]
        have h := heap_alloc_new wr (.cells #[.string x.id, .string x.title, .string x.link, .string x.content, .int .i64 x.upd] 35)
        exact ⟨cell_of_row _ _ 0 _ _ _ h, cell_of_row _ _ 1 _ _ _ h, cell_of_row _ _ 2 _ _ _ h, cell_of_row _ _ 3 _ _ _ h, cell_of_row _ _ 4 _ _ _ h⟩
      have hbw2 := hbr.trans (hb2.mono hzr)
      have hS2 := hS.same (hb2.block _ hSlt)
      have hbd : Below W2.heap.size W2 W2.drew := (Below.refl _ _).drew
      have hSd : KySet W2.drew w.heap.size ((l.take i).map EntD.id).reverse := hS2
      have hTd : HasUtf8 W2.drew := mu_below HT.out (hbw2.trans (hbd.mono hbw2.size))
      have HBW := Lib.hid (hbw2.trans (hbd.mono hbw2.size))
      have HTK := Lib.hid htk
      have cV := mc_validEntry x W2.drew hxz hTd
      have cI := fun wx => mc_idE x wx
      unfold EntV at cV cI
      have hks : x.id.size ≤ maxLen := by have := hxz.1; unfold maxLen; omega
      have hrl : ((l.take i).map EntD.id).reverse.length ≤ 100000000 := by rw [List.length_reverse, List.length_map, List.length_take]; omega
      obtain ⟨k0, k1, k2, k3, k4⟩ := id hX
      clear hS hS2 hbd hTd htk hxz
      by_cases hok : okE x = true
      case neg =>
        have hok0 : okE x = false := Bool.eq_false_iff.2 hok
        rw [hok0] at hrel cV
        have HX := Lib.hid (show R = false from hrel)
        clear hrel hok hok0 cI
        have S0 : W2.drew.cell? ⟨wr.heap.size, 0, none⟩ = some (.string x.id) ∧ W2.drew.cell? ⟨wr.heap.size, 1, none⟩ = some (.string x.title) ∧ W2.drew.cell? ⟨wr.heap.size, 2, none⟩ = some (.string x.link) ∧ W2.drew.cell? ⟨wr.heap.size, 3, none⟩ = some (.string x.content) ∧ W2.drew.cell? ⟨wr.heap.size, 4, none⟩ = some (.int .i64 x.upd) ∧ KySet W2.drew w.heap.size ((l.take i).map EntD.id).reverse := ⟨k0, k1, k2, k3, k4, hSd⟩
        have hSB : ∀ u1 u2 : World, Below u1.heap.size u1 u2 → (u1.cell? ⟨wr.heap.size, 0, none⟩ = some (.string x.id) ∧ u1.cell? ⟨wr.heap.size, 1, none⟩ = some (.string x.title) ∧ u1.cell? ⟨wr.heap.size, 2, none⟩ = some (.string x.link) ∧ u1.cell? ⟨wr.heap.size, 3, none⟩ = some (.string x.content) ∧ u1.cell? ⟨wr.heap.size, 4, none⟩ = some (.int .i64 x.upd) ∧ KySet u1 w.heap.size ((l.take i).map EntD.id).reverse) → (u2.cell? ⟨wr.heap.size, 0, none⟩ = some (.string x.id) ∧ u2.cell? ⟨wr.heap.size, 1, none⟩ = some (.string x.title) ∧ u2.cell? ⟨wr.heap.size, 2, none⟩ = some (.string x.link) ∧ u2.cell? ⟨wr.heap.size, 3, none⟩ = some (.string x.content) ∧ u2.cell? ⟨wr.heap.size, 4, none⟩ = some (.int .i64 x.upd) ∧ KySet u2 w.heap.size ((l.take i).map EntD.id).reverse) := fun u1 u2 hb h => by
          obtain ⟨z0, z1, z2, z3, z4, z5⟩ := h
          exact ⟨mcell hb z0, mcell hb z1, mcell hb z2, mcell hb z3, mcell hb z4, z5.same (hb.block _ z5.lt)⟩
        clear k0 k1 k2 k3 k4 hSd
        go_upto_region 5 with fail
        simp only [← hW2]
        clear hW2 hb2 hbw2 a0 a1 a2 a3 a4
        go_wp2
        refine wp_region_late (S := fun w' => w'.cell? ⟨wr.heap.size, 0, none⟩ = some (.string x.id) ∧ w'.cell? ⟨wr.heap.size, 1, none⟩ = some (.string x.title) ∧ w'.cell? ⟨wr.heap.size, 2, none⟩ = some (.string x.link) ∧ w'.cell? ⟨wr.heap.size, 3, none⟩ = some (.string x.content) ∧ w'.cell? ⟨wr.heap.size, 4, none⟩ = some (.int .i64 x.upd) ∧ KySet w' w.heap.size ((l.take i).map EntD.id).reverse) (D := []) (by kernel_rfl) ?_
        refine anyL_take (i := 0) (oi := { dst := some 20, op := Go.Op.move (Go.Operand.tmp 1), type := 51, pos := "valid.go:54", after := #[], guard := none }) (v := ?_) rfl (by decide) (by kernel_rfl) (by kernel_rfl) (by kernel_rfl) (by kernel_rfl) (fun _ _ _ h => h) (Or.inl ⟨by rfl, ?_⟩) S0 ?_
        rotate_left
        · intro wz hSz
          skip
          go_simp
          (try with_reducible rfl)
        try simp only [Act.put, List.setIfInBounds_toArray, List.set_cons_zero, List.set_cons_succ]
        refine anyL_take (i := 1) (oi := { dst := some 21, op := Go.Op.load 35 (Go.Operand.tmp 11), type := 35, pos := "valid.go:54", after := #[], guard := none }) (v := ?_) rfl (by decide) (by kernel_rfl) (by kernel_rfl) (by kernel_rfl) (by kernel_rfl) (fun _ _ _ h => h) (Or.inl ⟨by rfl, ?_⟩) S0 ?_
        rotate_left
        · intro wz hSz
          obtain ⟨z0, z1, z2, z3, z4, z5⟩ := hSz
          go_simp
          (try with_reducible rfl)
        try simp only [Act.put, List.setIfInBounds_toArray, List.set_cons_zero, List.set_cons_succ]
        refine anyL_ready (rs := [2]) (by kernel_rfl) (by simp) ?_
        refine AllL.cons (o := { dst := some 22, op := Go.Op.call { callee := Go.Callee.value (Go.Operand.tmp 20), args := #[Go.Operand.tmp 21], argTypes := #[35] }, type := 4, pos := "valid.go:54", after := #[{ on := 0, ground := Go.Ground.data }, { on := 1, ground := Go.Ground.data }], guard := none }) rfl (fun K' hK => ?_) AllL.nil
        rw [if_pos (by rfl)]
        go_simp
        go_at_call 26
        refine cV.mono ?_
        rintro e w6 ⟨rfl, b6⟩
        have S6 := hSB _ _ b6 S0
        refine hK _ _ S6 ?_
        clear hK K'
        try simp only [Act.put, List.setIfInBounds_toArray, List.set_cons_zero, List.set_cons_succ]
        refine anyL_take (i := 3) (oi := { dst := some 23, op := Go.Op.unOp Go.UnOp.not 4 (Go.Operand.tmp 22), type := 4, pos := "valid.go:54", after := #[{ on := 2, ground := Go.Ground.data }], guard := none }) (v := ?_) rfl (by decide) (by kernel_rfl) (by kernel_rfl) (by kernel_rfl) (by kernel_rfl) (fun _ _ _ h => h) (Or.inl ⟨by rfl, ?_⟩) S6 ?_
        rotate_left
        · intro wz hSz
          skip
          go_simp
          (try with_reducible rfl)
        try simp only [Act.put, List.setIfInBounds_toArray, List.set_cons_zero, List.set_cons_succ]
        refine anyL_take (i := 4) (oi := { dst := some 24, op := Go.Op.move (Go.Operand.tmp 23), type := 4, pos := "valid.go:54", after := #[{ on := 3, ground := Go.Ground.data }, { on := 2, ground := Go.Ground.chain }], guard := none }) (v := ?_) rfl (by decide) (by kernel_rfl) (by kernel_rfl) (by kernel_rfl) (by kernel_rfl) (fun _ _ _ h => h) (Or.inl ⟨by rfl, ?_⟩) S6 ?_
        rotate_left
        · intro wz hSz
          skip
          go_simp
          (try with_reducible rfl)
        try simp only [Act.put, List.setIfInBounds_toArray, List.set_cons_zero, List.set_cons_succ]
        refine anyL_take (i := 5) (oi := { dst := some 25, op := Go.Op.move (Go.Operand.tmp 9), type := 81, pos := "valid.go:54", after := #[{ on := 4, ground := Go.Ground.guard }], guard := some (4, false) }) (v := undef) rfl (by decide) (by kernel_rfl) (by kernel_rfl) (by kernel_rfl) (by kernel_rfl) (fun _ _ _ h => h) (Or.inr ⟨by rfl, rfl⟩) S6 ?_
        try simp only [Act.put, List.setIfInBounds_toArray, List.set_cons_zero, List.set_cons_succ]
        refine anyL_take (i := 6) (oi := { dst := some 26, op := Go.Op.move (Go.Operand.tmp 3), type := 46, pos := "valid.go:54", after := #[{ on := 4, ground := Go.Ground.guard }], guard := some (4, false) }) (v := undef) rfl (by decide) (by kernel_rfl) (by kernel_rfl) (by kernel_rfl) (by kernel_rfl) (fun _ _ _ h => h) (Or.inr ⟨by rfl, rfl⟩) S6 ?_
        try simp only [Act.put, List.setIfInBounds_toArray, List.set_cons_zero, List.set_cons_succ]
        refine anyL_take (i := 7) (oi := { dst := some 27, op := Go.Op.load 35 (Go.Operand.tmp 11), type := 35, pos := "valid.go:54", after := #[{ on := 4, ground := Go.Ground.guard }], guard := some (4, false) }) (v := undef) rfl (by decide) (by kernel_rfl) (by kernel_rfl) (by kernel_rfl) (by kernel_rfl) (fun _ _ _ h => h) (Or.inr ⟨by rfl, rfl⟩) S6 ?_
        try simp only [Act.put, List.setIfInBounds_toArray, List.set_cons_zero, List.set_cons_succ]
        refine anyL_take (i := 8) (oi := { dst := some 28, op := Go.Op.call { callee := Go.Callee.value (Go.Operand.tmp 26), args := #[Go.Operand.tmp 27], argTypes := #[35] }, type := 9, pos := "valid.go:54", after := #[{ on := 6, ground := Go.Ground.data }, { on := 7, ground := Go.Ground.data }, { on := 4, ground := Go.Ground.chain }, { on := 4, ground := Go.Ground.guard }], guard := some (4, false) }) (v := undef) rfl (by decide) (by kernel_rfl) (by kernel_rfl) (by kernel_rfl) (by kernel_rfl) (fun _ _ _ h => h) (Or.inr ⟨by rfl, rfl⟩) S6 ?_
        try simp only [Act.put, List.setIfInBounds_toArray, List.set_cons_zero, List.set_cons_succ]
        refine anyL_take (i := 9) (oi := { dst := some 29, op := Go.Op.lookup 81 (Go.Operand.tmp 25) (Go.Operand.tmp 28) false, type := 4, pos := "valid.go:54", after := #[{ on := 5, ground := Go.Ground.data }, { on := 8, ground := Go.Ground.data }, { on := 4, ground := Go.Ground.guard }], guard := some (4, false) }) (v := undef) rfl (by decide) (by kernel_rfl) (by kernel_rfl) (by kernel_rfl) (by kernel_rfl) (fun _ _ _ h => h) (Or.inr ⟨by rfl, rfl⟩) S6 ?_
        try simp only [Act.put, List.setIfInBounds_toArray, List.set_cons_zero, List.set_cons_succ]
        refine anyL_take (i := 10) (oi := { dst := some 30, op := Go.Op.pick (Go.Operand.tmp 24) (Go.Operand.const (Go.Value.bool true)) (Go.Operand.tmp 29), type := 4, pos := "valid.go:54", after := #[{ on := 4, ground := Go.Ground.data }, { on := 9, ground := Go.Ground.data }], guard := none }) (v := ?_) rfl (by decide) (by kernel_rfl) (by kernel_rfl) (by kernel_rfl) (by kernel_rfl) (fun _ _ _ h => h) (Or.inl ⟨by rfl, ?_⟩) S6 ?_
        rotate_left
        · intro wz hSz
          skip
          go_simp
          (try with_reducible rfl)
        try simp only [Act.put, List.setIfInBounds_toArray, List.set_cons_zero, List.set_cons_succ]
        refine anyL_take (i := 11) (oi := { dst := some 31, op := Go.Op.move (Go.Operand.tmp 30), type := 4, pos := "valid.go:54", after := #[{ on := 10, ground := Go.Ground.data }, { on := 8, ground := Go.Ground.chain }], guard := none }) (v := ?_) rfl (by decide) (by kernel_rfl) (by kernel_rfl) (by kernel_rfl) (by kernel_rfl) (fun _ _ _ h => h) (Or.inl ⟨by rfl, ?_⟩) S6 ?_
        rotate_left
        · intro wz hSz
          skip
          go_simp
          (try with_reducible rfl)
        try simp only [Act.put, List.setIfInBounds_toArray, List.set_cons_zero, List.set_cons_succ]
        refine anyL_take (i := 12) (oi := { dst := some 32, op := Go.Op.move (Go.Operand.tmp 10), type := 3, pos := "valid.go:54", after := #[{ on := 11, ground := Go.Ground.guard }], guard := some (11, false) }) (v := undef) rfl (by decide) (by kernel_rfl) (by kernel_rfl) (by kernel_rfl) (by kernel_rfl) (fun _ _ _ h => h) (Or.inr ⟨by rfl, rfl⟩) S6 ?_
        try simp only [Act.put, List.setIfInBounds_toArray, List.set_cons_zero, List.set_cons_succ]
        refine anyL_take (i := 13) (oi := { dst := some 33, op := Go.Op.binOp Go.BinOp.gtr 3 (Go.Operand.tmp 32) (Go.Operand.const (Go.Value.int Go.IntKind.i64 0)) 3, type := 4, pos := "valid.go:54", after := #[{ on := 12, ground := Go.Ground.data }, { on := 11, ground := Go.Ground.guard }], guard := some (11, false) }) (v := undef) rfl (by decide) (by kernel_rfl) (by kernel_rfl) (by kernel_rfl) (by kernel_rfl) (fun _ _ _ h => h) (Or.inr ⟨by rfl, rfl⟩) S6 ?_
        try simp only [Act.put, List.setIfInBounds_toArray, List.set_cons_zero, List.set_cons_succ]
        refine anyL_take (i := 14) (oi := { dst := some 34, op := Go.Op.move (Go.Operand.tmp 33), type := 4, pos := "valid.go:54", after := #[{ on := 13, ground := Go.Ground.data }, { on := 11, ground := Go.Ground.chain }, { on := 11, ground := Go.Ground.guard }], guard := some (11, false) }) (v := undef) rfl (by decide) (by kernel_rfl) (by kernel_rfl) (by kernel_rfl) (by kernel_rfl) (fun _ _ _ h => h) (Or.inr ⟨by rfl, rfl⟩) S6 ?_
        try simp only [Act.put, List.setIfInBounds_toArray, List.set_cons_zero, List.set_cons_succ]
        refine anyL_take (i := 15) (oi := { dst := some 35, op := Go.Op.move (Go.Operand.tmp 2), type := 45, pos := "valid.go:54", after := #[{ on := 14, ground := Go.Ground.guard }], guard := some (14, true) }) (v := undef) rfl (by decide) (by kernel_rfl) (by kernel_rfl) (by kernel_rfl) (by kernel_rfl) (fun _ _ _ h => h) (Or.inr ⟨by rfl, rfl⟩) S6 ?_
        try simp only [Act.put, List.setIfInBounds_toArray, List.set_cons_zero, List.set_cons_succ]
        refine anyL_take (i := 16) (oi := { dst := some 36, op := Go.Op.move (Go.Operand.tmp 0), type := 28, pos := "valid.go:54", after := #[{ on := 14, ground := Go.Ground.guard }], guard := some (14, true) }) (v := undef) rfl (by decide) (by kernel_rfl) (by kernel_rfl) (by kernel_rfl) (by kernel_rfl) (fun _ _ _ h => h) (Or.inr ⟨by rfl, rfl⟩) S6 ?_
        try simp only [Act.put, List.setIfInBounds_toArray, List.set_cons_zero, List.set_cons_succ]
        refine anyL_take (i := 17) (oi := { dst := some 37, op := Go.Op.move (Go.Operand.tmp 10), type := 3, pos := "valid.go:54", after := #[{ on := 14, ground := Go.Ground.guard }], guard := some (14, true) }) (v := undef) rfl (by decide) (by kernel_rfl) (by kernel_rfl) (by kernel_rfl) (by kernel_rfl) (fun _ _ _ h => h) (Or.inr ⟨by rfl, rfl⟩) S6 ?_
        try simp only [Act.put, List.setIfInBounds_toArray, List.set_cons_zero, List.set_cons_succ]
        refine anyL_take (i := 18) (oi := { dst := some 38, op := Go.Op.binOp Go.BinOp.sub 3 (Go.Operand.tmp 37) (Go.Operand.const (Go.Value.int Go.IntKind.i64 1)) 3, type := 3, pos := "valid.go:54", after := #[{ on := 17, ground := Go.Ground.data }, { on := 14, ground := Go.Ground.guard }], guard := some (14, true) }) (v := undef) rfl (by decide) (by kernel_rfl) (by kernel_rfl) (by kernel_rfl) (by kernel_rfl) (fun _ _ _ h => h) (Or.inr ⟨by rfl, rfl⟩) S6 ?_
        try simp only [Act.put, List.setIfInBounds_toArray, List.set_cons_zero, List.set_cons_succ]
        refine anyL_take (i := 19) (oi := { dst := some 39, op := Go.Op.indexAddr 28 (Go.Operand.tmp 36) (Go.Operand.tmp 38), type := 0, pos := "valid.go:54", after := #[{ on := 16, ground := Go.Ground.data }, { on := 18, ground := Go.Ground.data }, { on := 14, ground := Go.Ground.guard }], guard := some (14, true) }) (v := undef) rfl (by decide) (by kernel_rfl) (by kernel_rfl) (by kernel_rfl) (by kernel_rfl) (fun _ _ _ h => h) (Or.inr ⟨by rfl, rfl⟩) S6 ?_
        try simp only [Act.put, List.setIfInBounds_toArray, List.set_cons_zero, List.set_cons_succ]
        refine anyL_take (i := 20) (oi := { dst := some 40, op := Go.Op.load 35 (Go.Operand.tmp 39), type := 35, pos := "valid.go:54", after := #[{ on := 19, ground := Go.Ground.data }, { on := 14, ground := Go.Ground.guard }], guard := some (14, true) }) (v := undef) rfl (by decide) (by kernel_rfl) (by kernel_rfl) (by kernel_rfl) (by kernel_rfl) (fun _ _ _ h => h) (Or.inr ⟨by rfl, rfl⟩) S6 ?_
        try simp only [Act.put, List.setIfInBounds_toArray, List.set_cons_zero, List.set_cons_succ]
        refine anyL_take (i := 21) (oi := { dst := some 41, op := Go.Op.load 35 (Go.Operand.tmp 11), type := 35, pos := "valid.go:54", after := #[{ on := 14, ground := Go.Ground.guard }], guard := some (14, true) }) (v := undef) rfl (by decide) (by kernel_rfl) (by kernel_rfl) (by kernel_rfl) (by kernel_rfl) (fun _ _ _ h => h) (Or.inr ⟨by rfl, rfl⟩) S6 ?_
        try simp only [Act.put, List.setIfInBounds_toArray, List.set_cons_zero, List.set_cons_succ]
        refine anyL_take (i := 22) (oi := { dst := some 42, op := Go.Op.call { callee := Go.Callee.value (Go.Operand.tmp 35), args := #[Go.Operand.tmp 40, Go.Operand.tmp 41], argTypes := #[35, 35] }, type := 3, pos := "valid.go:54", after := #[{ on := 15, ground := Go.Ground.data }, { on := 20, ground := Go.Ground.data }, { on := 21, ground := Go.Ground.data }, { on := 14, ground := Go.Ground.chain }, { on := 14, ground := Go.Ground.guard }], guard := some (14, true) }) (v := undef) rfl (by decide) (by kernel_rfl) (by kernel_rfl) (by kernel_rfl) (by kernel_rfl) (fun _ _ _ h => h) (Or.inr ⟨by rfl, rfl⟩) S6 ?_
        try simp only [Act.put, List.setIfInBounds_toArray, List.set_cons_zero, List.set_cons_succ]
        refine anyL_take (i := 23) (oi := { dst := some 43, op := Go.Op.binOp Go.BinOp.geq 3 (Go.Operand.tmp 42) (Go.Operand.const (Go.Value.int Go.IntKind.i64 0)) 3, type := 4, pos := "valid.go:54", after := #[{ on := 22, ground := Go.Ground.data }, { on := 14, ground := Go.Ground.guard }], guard := some (14, true) }) (v := undef) rfl (by decide) (by kernel_rfl) (by kernel_rfl) (by kernel_rfl) (by kernel_rfl) (fun _ _ _ h => h) (Or.inr ⟨by rfl, rfl⟩) S6 ?_
        try simp only [Act.put, List.setIfInBounds_toArray, List.set_cons_zero, List.set_cons_succ]
        refine anyL_take (i := 24) (oi := { dst := some 44, op := Go.Op.pick (Go.Operand.tmp 34) (Go.Operand.tmp 43) (Go.Operand.const (Go.Value.bool false)), type := 4, pos := "valid.go:54", after := #[{ on := 14, ground := Go.Ground.data }, { on := 23, ground := Go.Ground.data }, { on := 11, ground := Go.Ground.guard }], guard := some (11, false) }) (v := undef) rfl (by decide) (by kernel_rfl) (by kernel_rfl) (by kernel_rfl) (by kernel_rfl) (fun _ _ _ h => h) (Or.inr ⟨by rfl, rfl⟩) S6 ?_
        try simp only [Act.put, List.setIfInBounds_toArray, List.set_cons_zero, List.set_cons_succ]
        refine anyL_take (i := 25) (oi := { dst := some 45, op := Go.Op.pick (Go.Operand.tmp 31) (Go.Operand.const (Go.Value.bool true)) (Go.Operand.tmp 44), type := 4, pos := "valid.go:54", after := #[{ on := 11, ground := Go.Ground.data }, { on := 24, ground := Go.Ground.data }], guard := none }) (v := ?_) rfl (by decide) (by kernel_rfl) (by kernel_rfl) (by kernel_rfl) (by kernel_rfl) (fun _ _ _ h => h) (Or.inl ⟨by rfl, ?_⟩) S6 ?_
        rotate_left
        · intro wz hSz
          skip
          go_simp
          (try with_reducible rfl)
        try simp only [Act.put, List.setIfInBounds_toArray, List.set_cons_zero, List.set_cons_succ]
        refine anyL_done (by kernel_rfl) ?_ _
        clear S6
        clear S0 hSB
        go_wp2
        go_ret
        exact ⟨mretB HX.out.symm, HBW.out.trans (b6.mono HBW.out.size)⟩
      rw [hok, Bool.true_and] at hrel
      rw [hok] at cV
      by_cases hany : ((l.take i).any fun e => decide (e.id = x.id)) = true
      case pos =>
        have hin : ∃ t ∈ ((l.take i).map EntD.id).reverse, t = x.id := by
          obtain ⟨y, hy, he⟩ := List.any_eq_true.1 hany
          exact ⟨y.id, List.mem_reverse.2 (List.mem_map.2 ⟨y, hy, rfl⟩), of_decide_eq_true he⟩
        have HX := Lib.hid (show R = false by rw [hrel, hany]; simp)
        clear hrel hany hok
        have S0 : W2.drew.cell? ⟨wr.heap.size, 0, none⟩ = some (.string x.id) ∧ W2.drew.cell? ⟨wr.heap.size, 1, none⟩ = some (.string x.title) ∧ W2.drew.cell? ⟨wr.heap.size, 2, none⟩ = some (.string x.link) ∧ W2.drew.cell? ⟨wr.heap.size, 3, none⟩ = some (.string x.content) ∧ W2.drew.cell? ⟨wr.heap.size, 4, none⟩ = some (.int .i64 x.upd) ∧ KySet W2.drew w.heap.size ((l.take i).map EntD.id).reverse := ⟨k0, k1, k2, k3, k4, hSd⟩
        have hSB : ∀ u1 u2 : World, Below u1.heap.size u1 u2 → (u1.cell? ⟨wr.heap.size, 0, none⟩ = some (.string x.id) ∧ u1.cell? ⟨wr.heap.size, 1, none⟩ = some (.string x.title) ∧ u1.cell? ⟨wr.heap.size, 2, none⟩ = some (.string x.link) ∧ u1.cell? ⟨wr.heap.size, 3, none⟩ = some (.string x.content) ∧ u1.cell? ⟨wr.heap.size, 4, none⟩ = some (.int .i64 x.upd) ∧ KySet u1 w.heap.size ((l.take i).map EntD.id).reverse) → (u2.cell? ⟨wr.heap.size, 0, none⟩ = some (.string x.id) ∧ u2.cell? ⟨wr.heap.size, 1, none⟩ = some (.string x.title) ∧ u2.cell? ⟨wr.heap.size, 2, none⟩ = some (.string x.link) ∧ u2.cell? ⟨wr.heap.size, 3, none⟩ = some (.string x.content) ∧ u2.cell? ⟨wr.heap.size, 4, none⟩ = some (.int .i64 x.upd) ∧ KySet u2 w.heap.size ((l.take i).map EntD.id).reverse) := fun u1 u2 hb h => by
          obtain ⟨z0, z1, z2, z3, z4, z5⟩ := h
          exact ⟨mcell hb z0, mcell hb z1, mcell hb z2, mcell hb z3, mcell hb z4, z5.same (hb.block _ z5.lt)⟩
        clear k0 k1 k2 k3 k4 hSd
        go_upto_region 5 with fail
        simp only [← hW2]
        clear hW2 hb2 hbw2 a0 a1 a2 a3 a4
        go_wp2
        refine wp_region_late (S := fun w' => w'.cell? ⟨wr.heap.size, 0, none⟩ = some (.string x.id) ∧ w'.cell? ⟨wr.heap.size, 1, none⟩ = some (.string x.title) ∧ w'.cell? ⟨wr.heap.size, 2, none⟩ = some (.string x.link) ∧ w'.cell? ⟨wr.heap.size, 3, none⟩ = some (.string x.content) ∧ w'.cell? ⟨wr.heap.size, 4, none⟩ = some (.int .i64 x.upd) ∧ KySet w' w.heap.size ((l.take i).map EntD.id).reverse) (D := []) (by kernel_rfl) ?_
        refine anyL_take (i := 0) (oi := { dst := some 20, op := Go.Op.move (Go.Operand.tmp 1), type := 51, pos := "valid.go:54", after := #[], guard := none }) (v := ?_) rfl (by decide) (by kernel_rfl) (by kernel_rfl) (by kernel_rfl) (by kernel_rfl) (fun _ _ _ h => h) (Or.inl ⟨by rfl, ?_⟩) S0 ?_
        rotate_left
        · intro wz hSz
          skip
          go_simp
          (try with_reducible rfl)
        try simp only [Act.put, List.setIfInBounds_toArray, List.set_cons_zero, List.set_cons_succ]
        refine anyL_take (i := 1) (oi := { dst := some 21, op := Go.Op.load 35 (Go.Operand.tmp 11), type := 35, pos := "valid.go:54", after := #[], guard := none }) (v := ?_) rfl (by decide) (by kernel_rfl) (by kernel_rfl) (by kernel_rfl) (by kernel_rfl) (fun _ _ _ h => h) (Or.inl ⟨by rfl, ?_⟩) S0 ?_
        rotate_left
        · intro wz hSz
          obtain ⟨z0, z1, z2, z3, z4, z5⟩ := hSz
          go_simp
          (try with_reducible rfl)
        try simp only [Act.put, List.setIfInBounds_toArray, List.set_cons_zero, List.set_cons_succ]
        refine anyL_ready (rs := [2]) (by kernel_rfl) (by simp) ?_
        refine AllL.cons (o := { dst := some 22, op := Go.Op.call { callee := Go.Callee.value (Go.Operand.tmp 20), args := #[Go.Operand.tmp 21], argTypes := #[35] }, type := 4, pos := "valid.go:54", after := #[{ on := 0, ground := Go.Ground.data }, { on := 1, ground := Go.Ground.data }], guard := none }) rfl (fun K' hK => ?_) AllL.nil
        rw [if_pos (by rfl)]
        go_simp
        go_at_call 26
        refine cV.mono ?_
        rintro e w6 ⟨rfl, b6⟩
        have S6 := hSB _ _ b6 S0
        refine hK _ _ S6 ?_
        clear hK K'
        try simp only [Act.put, List.setIfInBounds_toArray, List.set_cons_zero, List.set_cons_succ]
        refine anyL_take (i := 3) (oi := { dst := some 23, op := Go.Op.unOp Go.UnOp.not 4 (Go.Operand.tmp 22), type := 4, pos := "valid.go:54", after := #[{ on := 2, ground := Go.Ground.data }], guard := none }) (v := ?_) rfl (by decide) (by kernel_rfl) (by kernel_rfl) (by kernel_rfl) (by kernel_rfl) (fun _ _ _ h => h) (Or.inl ⟨by rfl, ?_⟩) S6 ?_
        rotate_left
        · intro wz hSz
          skip
          go_simp
          (try with_reducible rfl)
        try simp only [Act.put, List.setIfInBounds_toArray, List.set_cons_zero, List.set_cons_succ]
        refine anyL_take (i := 4) (oi := { dst := some 24, op := Go.Op.move (Go.Operand.tmp 23), type := 4, pos := "valid.go:54", after := #[{ on := 3, ground := Go.Ground.data }, { on := 2, ground := Go.Ground.chain }], guard := none }) (v := ?_) rfl (by decide) (by kernel_rfl) (by kernel_rfl) (by kernel_rfl) (by kernel_rfl) (fun _ _ _ h => h) (Or.inl ⟨by rfl, ?_⟩) S6 ?_
        rotate_left
        · intro wz hSz
          skip
          go_simp
          (try with_reducible rfl)
        try simp only [Act.put, List.setIfInBounds_toArray, List.set_cons_zero, List.set_cons_succ]
        refine anyL_take (i := 5) (oi := { dst := some 25, op := Go.Op.move (Go.Operand.tmp 9), type := 81, pos := "valid.go:54", after := #[{ on := 4, ground := Go.Ground.guard }], guard := some (4, false) }) (v := ?_) rfl (by decide) (by kernel_rfl) (by kernel_rfl) (by kernel_rfl) (by kernel_rfl) (fun _ _ _ h => h) (Or.inl ⟨by rfl, ?_⟩) S6 ?_
        rotate_left
        · intro wz hSz
          skip
          go_simp
          (try with_reducible rfl)
        try simp only [Act.put, List.setIfInBounds_toArray, List.set_cons_zero, List.set_cons_succ]
        refine anyL_take (i := 6) (oi := { dst := some 26, op := Go.Op.move (Go.Operand.tmp 3), type := 46, pos := "valid.go:54", after := #[{ on := 4, ground := Go.Ground.guard }], guard := some (4, false) }) (v := ?_) rfl (by decide) (by kernel_rfl) (by kernel_rfl) (by kernel_rfl) (by kernel_rfl) (fun _ _ _ h => h) (Or.inl ⟨by rfl, ?_⟩) S6 ?_
        rotate_left
        · intro wz hSz
          skip
          go_simp
          (try with_reducible rfl)
        try simp only [Act.put, List.setIfInBounds_toArray, List.set_cons_zero, List.set_cons_succ]
        refine anyL_take (i := 7) (oi := { dst := some 27, op := Go.Op.load 35 (Go.Operand.tmp 11), type := 35, pos := "valid.go:54", after := #[{ on := 4, ground := Go.Ground.guard }], guard := some (4, false) }) (v := ?_) rfl (by decide) (by kernel_rfl) (by kernel_rfl) (by kernel_rfl) (by kernel_rfl) (fun _ _ _ h => h) (Or.inl ⟨by rfl, ?_⟩) S6 ?_
        rotate_left
        · intro wz hSz
          obtain ⟨z0, z1, z2, z3, z4, z5⟩ := hSz
          go_simp
          (try with_reducible rfl)
        try simp only [Act.put, List.setIfInBounds_toArray, List.set_cons_zero, List.set_cons_succ]
        refine anyL_ready (rs := [8]) (by kernel_rfl) (by simp) ?_
        refine AllL.cons (o := { dst := some 28, op := Go.Op.call { callee := Go.Callee.value (Go.Operand.tmp 26), args := #[Go.Operand.tmp 27], argTypes := #[35] }, type := 9, pos := "valid.go:54", after := #[{ on := 6, ground := Go.Ground.data }, { on := 7, ground := Go.Ground.data }, { on := 4, ground := Go.Ground.chain }, { on := 4, ground := Go.Ground.guard }], guard := some (4, false) }) rfl (fun K' hK => ?_) AllL.nil
        rw [if_pos (by rfl)]
        go_simp
        go_at_call 48
        refine (cI _).mono ?_
        rintro e w7 ⟨rfl, b7⟩
        have S7 := hSB _ _ b7 S6
        refine hK _ _ S7 ?_
        clear hK K'
        try simp only [Act.put, List.setIfInBounds_toArray, List.set_cons_zero, List.set_cons_succ]
        refine anyL_take (i := 9) (oi := { dst := some 29, op := Go.Op.lookup 81 (Go.Operand.tmp 25) (Go.Operand.tmp 28) false, type := 4, pos := "valid.go:54", after := #[{ on := 5, ground := Go.Ground.data }, { on := 8, ground := Go.Ground.data }, { on := 4, ground := Go.Ground.guard }], guard := some (4, false) }) (v := ?_) rfl (by decide) (by kernel_rfl) (by kernel_rfl) (by kernel_rfl) (by kernel_rfl) (fun _ _ _ h => h) (Or.inl ⟨by rfl, ?_⟩) S7 ?_
        rotate_left
        · intro wz hSz
          obtain ⟨z0, z1, z2, z3, z4, z5⟩ := hSz
          have hat := z5.look_yes x.id hks hin
          go_simp
          (try with_reducible rfl)
        try simp only [Act.put, List.setIfInBounds_toArray, List.set_cons_zero, List.set_cons_succ]
        refine anyL_take (i := 10) (oi := { dst := some 30, op := Go.Op.pick (Go.Operand.tmp 24) (Go.Operand.const (Go.Value.bool true)) (Go.Operand.tmp 29), type := 4, pos := "valid.go:54", after := #[{ on := 4, ground := Go.Ground.data }, { on := 9, ground := Go.Ground.data }], guard := none }) (v := ?_) rfl (by decide) (by kernel_rfl) (by kernel_rfl) (by kernel_rfl) (by kernel_rfl) (fun _ _ _ h => h) (Or.inl ⟨by rfl, ?_⟩) S7 ?_
        rotate_left
        · intro wz hSz
          skip
          go_simp
          (try with_reducible rfl)
        try simp only [Act.put, List.setIfInBounds_toArray, List.set_cons_zero, List.set_cons_succ]
        refine anyL_take (i := 11) (oi := { dst := some 31, op := Go.Op.move (Go.Operand.tmp 30), type := 4, pos := "valid.go:54", after := #[{ on := 10, ground := Go.Ground.data }, { on := 8, ground := Go.Ground.chain }], guard := none }) (v := ?_) rfl (by decide) (by kernel_rfl) (by kernel_rfl) (by kernel_rfl) (by kernel_rfl) (fun _ _ _ h => h) (Or.inl ⟨by rfl, ?_⟩) S7 ?_
        rotate_left
        · intro wz hSz
          skip
          go_simp
          (try with_reducible rfl)
        try simp only [Act.put, List.setIfInBounds_toArray, List.set_cons_zero, List.set_cons_succ]
        refine anyL_take (i := 12) (oi := { dst := some 32, op := Go.Op.move (Go.Operand.tmp 10), type := 3, pos := "valid.go:54", after := #[{ on := 11, ground := Go.Ground.guard }], guard := some (11, false) }) (v := undef) rfl (by decide) (by kernel_rfl) (by kernel_rfl) (by kernel_rfl) (by kernel_rfl) (fun _ _ _ h => h) (Or.inr ⟨by rfl, rfl⟩) S7 ?_
        try simp only [Act.put, List.setIfInBounds_toArray, List.set_cons_zero, List.set_cons_succ]
        refine anyL_take (i := 13) (oi := { dst := some 33, op := Go.Op.binOp Go.BinOp.gtr 3 (Go.Operand.tmp 32) (Go.Operand.const (Go.Value.int Go.IntKind.i64 0)) 3, type := 4, pos := "valid.go:54", after := #[{ on := 12, ground := Go.Ground.data }, { on := 11, ground := Go.Ground.guard }], guard := some (11, false) }) (v := undef) rfl (by decide) (by kernel_rfl) (by kernel_rfl) (by kernel_rfl) (by kernel_rfl) (fun _ _ _ h => h) (Or.inr ⟨by rfl, rfl⟩) S7 ?_
        try simp only [Act.put, List.setIfInBounds_toArray, List.set_cons_zero, List.set_cons_succ]
        refine anyL_take (i := 14) (oi := { dst := some 34, op := Go.Op.move (Go.Operand.tmp 33), type := 4, pos := "valid.go:54", after := #[{ on := 13, ground := Go.Ground.data }, { on := 11, ground := Go.Ground.chain }, { on := 11, ground := Go.Ground.guard }], guard := some (11, false) }) (v := undef) rfl (by decide) (by kernel_rfl) (by kernel_rfl) (by kernel_rfl) (by kernel_rfl) (fun _ _ _ h => h) (Or.inr ⟨by rfl, rfl⟩) S7 ?_
        try simp only [Act.put, List.setIfInBounds_toArray, List.set_cons_zero, List.set_cons_succ]
        refine anyL_take (i := 15) (oi := { dst := some 35, op := Go.Op.move (Go.Operand.tmp 2), type := 45, pos := "valid.go:54", after := #[{ on := 14, ground := Go.Ground.guard }], guard := some (14, true) }) (v := undef) rfl (by decide) (by kernel_rfl) (by kernel_rfl) (by kernel_rfl) (by kernel_rfl) (fun _ _ _ h => h) (Or.inr ⟨by rfl, rfl⟩) S7 ?_
        try simp only [Act.put, List.setIfInBounds_toArray, List.set_cons_zero, List.set_cons_succ]
        refine anyL_take (i := 16) (oi := { dst := some 36, op := Go.Op.move (Go.Operand.tmp 0), type := 28, pos := "valid.go:54", after := #[{ on := 14, ground := Go.Ground.guard }], guard := some (14, true) }) (v := undef) rfl (by decide) (by kernel_rfl) (by kernel_rfl) (by kernel_rfl) (by kernel_rfl) (fun _ _ _ h => h) (Or.inr ⟨by rfl, rfl⟩) S7 ?_
        try simp only [Act.put, List.setIfInBounds_toArray, List.set_cons_zero, List.set_cons_succ]
        refine anyL_take (i := 17) (oi := { dst := some 37, op := Go.Op.move (Go.Operand.tmp 10), type := 3, pos := "valid.go:54", after := #[{ on := 14, ground := Go.Ground.guard }], guard := some (14, true) }) (v := undef) rfl (by decide) (by kernel_rfl) (by kernel_rfl) (by kernel_rfl) (by kernel_rfl) (fun _ _ _ h => h) (Or.inr ⟨by rfl, rfl⟩) S7 ?_
        try simp only [Act.put, List.setIfInBounds_toArray, List.set_cons_zero, List.set_cons_succ]
        refine anyL_take (i := 18) (oi := { dst := some 38, op := Go.Op.binOp Go.BinOp.sub 3 (Go.Operand.tmp 37) (Go.Operand.const (Go.Value.int Go.IntKind.i64 1)) 3, type := 3, pos := "valid.go:54", after := #[{ on := 17, ground := Go.Ground.data }, { on := 14, ground := Go.Ground.guard }], guard := some (14, true) }) (v := undef) rfl (by decide) (by kernel_rfl) (by kernel_rfl) (by kernel_rfl) (by kernel_rfl) (fun _ _ _ h => h) (Or.inr ⟨by rfl, rfl⟩) S7 ?_
        try simp only [Act.put, List.setIfInBounds_toArray, List.set_cons_zero, List.set_cons_succ]
        refine anyL_take (i := 19) (oi := { dst := some 39, op := Go.Op.indexAddr 28 (Go.Operand.tmp 36) (Go.Operand.tmp 38), type := 0, pos := "valid.go:54", after := #[{ on := 16, ground := Go.Ground.data }, { on := 18, ground := Go.Ground.data }, { on := 14, ground := Go.Ground.guard }], guard := some (14, true) }) (v := undef) rfl (by decide) (by kernel_rfl) (by kernel_rfl) (by kernel_rfl) (by kernel_rfl) (fun _ _ _ h => h) (Or.inr ⟨by rfl, rfl⟩) S7 ?_
        try simp only [Act.put, List.setIfInBounds_toArray, List.set_cons_zero, List.set_cons_succ]
        refine anyL_take (i := 20) (oi := { dst := some 40, op := Go.Op.load 35 (Go.Operand.tmp 39), type := 35, pos := "valid.go:54", after := #[{ on := 19, ground := Go.Ground.data }, { on := 14, ground := Go.Ground.guard }], guard := some (14, true) }) (v := undef) rfl (by decide) (by kernel_rfl) (by kernel_rfl) (by kernel_rfl) (by kernel_rfl) (fun _ _ _ h => h) (Or.inr ⟨by rfl, rfl⟩) S7 ?_
        try simp only [Act.put, List.setIfInBounds_toArray, List.set_cons_zero, List.set_cons_succ]
        refine anyL_take (i := 21) (oi := { dst := some 41, op := Go.Op.load 35 (Go.Operand.tmp 11), type := 35, pos := "valid.go:54", after := #[{ on := 14, ground := Go.Ground.guard }], guard := some (14, true) }) (v := undef) rfl (by decide) (by kernel_rfl) (by kernel_rfl) (by kernel_rfl) (by kernel_rfl) (fun _ _ _ h => h) (Or.inr ⟨by rfl, rfl⟩) S7 ?_
        try simp only [Act.put, List.setIfInBounds_toArray, List.set_cons_zero, List.set_cons_succ]
        refine anyL_take (i := 22) (oi := { dst := some 42, op := Go.Op.call { callee := Go.Callee.value (Go.Operand.tmp 35), args := #[Go.Operand.tmp 40, Go.Operand.tmp 41], argTypes := #[35, 35] }, type := 3, pos := "valid.go:54", after := #[{ on := 15, ground := Go.Ground.data }, { on := 20, ground := Go.Ground.data }, { on := 21, ground := Go.Ground.data }, { on := 14, ground := Go.Ground.chain }, { on := 14, ground := Go.Ground.guard }], guard := some (14, true) }) (v := undef) rfl (by decide) (by kernel_rfl) (by kernel_rfl) (by kernel_rfl) (by kernel_rfl) (fun _ _ _ h => h) (Or.inr ⟨by rfl, rfl⟩) S7 ?_
        try simp only [Act.put, List.setIfInBounds_toArray, List.set_cons_zero, List.set_cons_succ]
        refine anyL_take (i := 23) (oi := { dst := some 43, op := Go.Op.binOp Go.BinOp.geq 3 (Go.Operand.tmp 42) (Go.Operand.const (Go.Value.int Go.IntKind.i64 0)) 3, type := 4, pos := "valid.go:54", after := #[{ on := 22, ground := Go.Ground.data }, { on := 14, ground := Go.Ground.guard }], guard := some (14, true) }) (v := undef) rfl (by decide) (by kernel_rfl) (by kernel_rfl) (by kernel_rfl) (by kernel_rfl) (fun _ _ _ h => h) (Or.inr ⟨by rfl, rfl⟩) S7 ?_
        try simp only [Act.put, List.setIfInBounds_toArray, List.set_cons_zero, List.set_cons_succ]
        refine anyL_take (i := 24) (oi := { dst := some 44, op := Go.Op.pick (Go.Operand.tmp 34) (Go.Operand.tmp 43) (Go.Operand.const (Go.Value.bool false)), type := 4, pos := "valid.go:54", after := #[{ on := 14, ground := Go.Ground.data }, { on := 23, ground := Go.Ground.data }, { on := 11, ground := Go.Ground.guard }], guard := some (11, false) }) (v := undef) rfl (by decide) (by kernel_rfl) (by kernel_rfl) (by kernel_rfl) (by kernel_rfl) (fun _ _ _ h => h) (Or.inr ⟨by rfl, rfl⟩) S7 ?_
        try simp only [Act.put, List.setIfInBounds_toArray, List.set_cons_zero, List.set_cons_succ]
        refine anyL_take (i := 25) (oi := { dst := some 45, op := Go.Op.pick (Go.Operand.tmp 31) (Go.Operand.const (Go.Value.bool true)) (Go.Operand.tmp 44), type := 4, pos := "valid.go:54", after := #[{ on := 11, ground := Go.Ground.data }, { on := 24, ground := Go.Ground.data }], guard := none }) (v := ?_) rfl (by decide) (by kernel_rfl) (by kernel_rfl) (by kernel_rfl) (by kernel_rfl) (fun _ _ _ h => h) (Or.inl ⟨by rfl, ?_⟩) S7 ?_
        rotate_left
        · intro wz hSz
          skip
          go_simp
          (try with_reducible rfl)
        try simp only [Act.put, List.setIfInBounds_toArray, List.set_cons_zero, List.set_cons_succ]
        refine anyL_done (by kernel_rfl) ?_ _
        clear S6 S7
        clear S0 hSB
        go_wp2
        go_ret
        exact ⟨mretB HX.out.symm, HBW.out.trans ((b6.trans (b7.mono b6.size)).mono HBW.out.size)⟩
      have hin : ¬ ∃ t ∈ ((l.take i).map EntD.id).reverse, t = x.id := by
        rintro ⟨t, ht, he⟩
        obtain ⟨y, hy, rfl⟩ := List.mem_map.1 (List.mem_reverse.1 ht)
        exact hany (List.any_eq_true.2 ⟨y, hy, decide_eq_true he⟩)
      have hany0 : ((l.take i).any fun e => decide (e.id = x.id)) = false := Bool.eq_false_iff.2 hany
      rw [hany0, Bool.not_false, Bool.true_and] at hrel
      clear hany hany0 hok
      rcases (show i = 0 ∨ ∃ k, i = k + 1 from by cases i with | zero => exact .inl rfl | succ k => exact .inr ⟨k, rfl⟩) with rfl | ⟨k, rfl⟩
      · rw [lastOk_zero, Bool.true_and] at hrel
        have HX := Lib.hid hrel
        clear hrel
        have S0 : W2.drew.cell? ⟨wr.heap.size, 0, none⟩ = some (.string x.id) ∧ W2.drew.cell? ⟨wr.heap.size, 1, none⟩ = some (.string x.title) ∧ W2.drew.cell? ⟨wr.heap.size, 2, none⟩ = some (.string x.link) ∧ W2.drew.cell? ⟨wr.heap.size, 3, none⟩ = some (.string x.content) ∧ W2.drew.cell? ⟨wr.heap.size, 4, none⟩ = some (.int .i64 x.upd) ∧ KySet W2.drew w.heap.size ((l.take 0).map EntD.id).reverse := ⟨k0, k1, k2, k3, k4, hSd⟩
        have hSB : ∀ u1 u2 : World, Below u1.heap.size u1 u2 → (u1.cell? ⟨wr.heap.size, 0, none⟩ = some (.string x.id) ∧ u1.cell? ⟨wr.heap.size, 1, none⟩ = some (.string x.title) ∧ u1.cell? ⟨wr.heap.size, 2, none⟩ = some (.string x.link) ∧ u1.cell? ⟨wr.heap.size, 3, none⟩ = some (.string x.content) ∧ u1.cell? ⟨wr.heap.size, 4, none⟩ = some (.int .i64 x.upd) ∧ KySet u1 w.heap.size ((l.take 0).map EntD.id).reverse) → (u2.cell? ⟨wr.heap.size, 0, none⟩ = some (.string x.id) ∧ u2.cell? ⟨wr.heap.size, 1, none⟩ = some (.string x.title) ∧ u2.cell? ⟨wr.heap.size, 2, none⟩ = some (.string x.link) ∧ u2.cell? ⟨wr.heap.size, 3, none⟩ = some (.string x.content) ∧ u2.cell? ⟨wr.heap.size, 4, none⟩ = some (.int .i64 x.upd) ∧ KySet u2 w.heap.size ((l.take 0).map EntD.id).reverse) := fun u1 u2 hb h => by
          obtain ⟨z0, z1, z2, z3, z4, z5⟩ := h
          exact ⟨mcell hb z0, mcell hb z1, mcell hb z2, mcell hb z3, mcell hb z4, z5.same (hb.block _ z5.lt)⟩
        clear k0 k1 k2 k3 k4 hSd
        go_upto_region 5 with fail
        simp only [← hW2]
        clear hW2 hb2 hbw2 a0 a1 a2 a3 a4
        go_wp2
        refine wp_region_late (S := fun w' => w'.cell? ⟨wr.heap.size, 0, none⟩ = some (.string x.id) ∧ w'.cell? ⟨wr.heap.size, 1, none⟩ = some (.string x.title) ∧ w'.cell? ⟨wr.heap.size, 2, none⟩ = some (.string x.link) ∧ w'.cell? ⟨wr.heap.size, 3, none⟩ = some (.string x.content) ∧ w'.cell? ⟨wr.heap.size, 4, none⟩ = some (.int .i64 x.upd) ∧ KySet w' w.heap.size ((l.take 0).map EntD.id).reverse) (D := []) (by kernel_rfl) ?_
        refine anyL_take (i := 0) (oi := { dst := some 20, op := Go.Op.move (Go.Operand.tmp 1), type := 51, pos := "valid.go:54", after := #[], guard := none }) (v := ?_) rfl (by decide) (by kernel_rfl) (by kernel_rfl) (by kernel_rfl) (by kernel_rfl) (fun _ _ _ h => h) (Or.inl ⟨by rfl, ?_⟩) S0 ?_
        rotate_left
        · intro wz hSz
          skip
          go_simp
          (try with_reducible rfl)
        try simp only [Act.put, List.setIfInBounds_toArray, List.set_cons_zero, List.set_cons_succ]
        refine anyL_take (i := 1) (oi := { dst := some 21, op := Go.Op.load 35 (Go.Operand.tmp 11), type := 35, pos := "valid.go:54", after := #[], guard := none }) (v := ?_) rfl (by decide) (by kernel_rfl) (by kernel_rfl) (by kernel_rfl) (by kernel_rfl) (fun _ _ _ h => h) (Or.inl ⟨by rfl, ?_⟩) S0 ?_
        rotate_left
        · intro wz hSz
          obtain ⟨z0, z1, z2, z3, z4, z5⟩ := hSz
          go_simp
          (try with_reducible rfl)
        try simp only [Act.put, List.setIfInBounds_toArray, List.set_cons_zero, List.set_cons_succ]
        refine anyL_ready (rs := [2]) (by kernel_rfl) (by simp) ?_
        refine AllL.cons (o := { dst := some 22, op := Go.Op.call { callee := Go.Callee.value (Go.Operand.tmp 20), args := #[Go.Operand.tmp 21], argTypes := #[35] }, type := 4, pos := "valid.go:54", after := #[{ on := 0, ground := Go.Ground.data }, { on := 1, ground := Go.Ground.data }], guard := none }) rfl (fun K' hK => ?_) AllL.nil
        rw [if_pos (by rfl)]
        go_simp
        go_at_call 26
        refine cV.mono ?_
        rintro e w6 ⟨rfl, b6⟩
        have S6 := hSB _ _ b6 S0
        refine hK _ _ S6 ?_
        clear hK K'
        try simp only [Act.put, List.setIfInBounds_toArray, List.set_cons_zero, List.set_cons_succ]
        refine anyL_take (i := 3) (oi := { dst := some 23, op := Go.Op.unOp Go.UnOp.not 4 (Go.Operand.tmp 22), type := 4, pos := "valid.go:54", after := #[{ on := 2, ground := Go.Ground.data }], guard := none }) (v := ?_) rfl (by decide) (by kernel_rfl) (by kernel_rfl) (by kernel_rfl) (by kernel_rfl) (fun _ _ _ h => h) (Or.inl ⟨by rfl, ?_⟩) S6 ?_
        rotate_left
        · intro wz hSz
          skip
          go_simp
          (try with_reducible rfl)
        try simp only [Act.put, List.setIfInBounds_toArray, List.set_cons_zero, List.set_cons_succ]
        refine anyL_take (i := 4) (oi := { dst := some 24, op := Go.Op.move (Go.Operand.tmp 23), type := 4, pos := "valid.go:54", after := #[{ on := 3, ground := Go.Ground.data }, { on := 2, ground := Go.Ground.chain }], guard := none }) (v := ?_) rfl (by decide) (by kernel_rfl) (by kernel_rfl) (by kernel_rfl) (by kernel_rfl) (fun _ _ _ h => h) (Or.inl ⟨by rfl, ?_⟩) S6 ?_
        rotate_left
        · intro wz hSz
          skip
          go_simp
          (try with_reducible rfl)
        try simp only [Act.put, List.setIfInBounds_toArray, List.set_cons_zero, List.set_cons_succ]
        refine anyL_take (i := 5) (oi := { dst := some 25, op := Go.Op.move (Go.Operand.tmp 9), type := 81, pos := "valid.go:54", after := #[{ on := 4, ground := Go.Ground.guard }], guard := some (4, false) }) (v := ?_) rfl (by decide) (by kernel_rfl) (by kernel_rfl) (by kernel_rfl) (by kernel_rfl) (fun _ _ _ h => h) (Or.inl ⟨by rfl, ?_⟩) S6 ?_
        rotate_left
        · intro wz hSz
          skip
          go_simp
          (try with_reducible rfl)
        try simp only [Act.put, List.setIfInBounds_toArray, List.set_cons_zero, List.set_cons_succ]
        refine anyL_take (i := 6) (oi := { dst := some 26, op := Go.Op.move (Go.Operand.tmp 3), type := 46, pos := "valid.go:54", after := #[{ on := 4, ground := Go.Ground.guard }], guard := some (4, false) }) (v := ?_) rfl (by decide) (by kernel_rfl) (by kernel_rfl) (by kernel_rfl) (by kernel_rfl) (fun _ _ _ h => h) (Or.inl ⟨by rfl, ?_⟩) S6 ?_
        rotate_left
        · intro wz hSz
          skip
          go_simp
          (try with_reducible rfl)
        try simp only [Act.put, List.setIfInBounds_toArray, List.set_cons_zero, List.set_cons_succ]
        refine anyL_take (i := 7) (oi := { dst := some 27, op := Go.Op.load 35 (Go.Operand.tmp 11), type := 35, pos := "valid.go:54", after := #[{ on := 4, ground := Go.Ground.guard }], guard := some (4, false) }) (v := ?_) rfl (by decide) (by kernel_rfl) (by kernel_rfl) (by kernel_rfl) (by kernel_rfl) (fun _ _ _ h => h) (Or.inl ⟨by rfl, ?_⟩) S6 ?_
        rotate_left
        · intro wz hSz
          obtain ⟨z0, z1, z2, z3, z4, z5⟩ := hSz
          go_simp
          (try with_reducible rfl)
        try simp only [Act.put, List.setIfInBounds_toArray, List.set_cons_zero, List.set_cons_succ]
        refine anyL_ready (rs := [8]) (by kernel_rfl) (by simp) ?_
        refine AllL.cons (o := { dst := some 28, op := Go.Op.call { callee := Go.Callee.value (Go.Operand.tmp 26), args := #[Go.Operand.tmp 27], argTypes := #[35] }, type := 9, pos := "valid.go:54", after := #[{ on := 6, ground := Go.Ground.data }, { on := 7, ground := Go.Ground.data }, { on := 4, ground := Go.Ground.chain }, { on := 4, ground := Go.Ground.guard }], guard := some (4, false) }) rfl (fun K' hK => ?_) AllL.nil
        rw [if_pos (by rfl)]
        go_simp
        go_at_call 48
        refine (cI _).mono ?_
        rintro e w7 ⟨rfl, b7⟩
        have S7 := hSB _ _ b7 S6
        refine hK _ _ S7 ?_
        clear hK K'
        try simp only [Act.put, List.setIfInBounds_toArray, List.set_cons_zero, List.set_cons_succ]
        refine anyL_take (i := 9) (oi := { dst := some 29, op := Go.Op.lookup 81 (Go.Operand.tmp 25) (Go.Operand.tmp 28) false, type := 4, pos := "valid.go:54", after := #[{ on := 5, ground := Go.Ground.data }, { on := 8, ground := Go.Ground.data }, { on := 4, ground := Go.Ground.guard }], guard := some (4, false) }) (v := ?_) rfl (by decide) (by kernel_rfl) (by kernel_rfl) (by kernel_rfl) (by kernel_rfl) (fun _ _ _ h => h) (Or.inl ⟨by rfl, ?_⟩) S7 ?_
        rotate_left
        · intro wz hSz
          obtain ⟨z0, z1, z2, z3, z4, z5⟩ := hSz
          have hat := z5.look_no x.id hks hin
          go_simp
          (try with_reducible rfl)
        try simp only [Act.put, List.setIfInBounds_toArray, List.set_cons_zero, List.set_cons_succ]
        refine anyL_take (i := 10) (oi := { dst := some 30, op := Go.Op.pick (Go.Operand.tmp 24) (Go.Operand.const (Go.Value.bool true)) (Go.Operand.tmp 29), type := 4, pos := "valid.go:54", after := #[{ on := 4, ground := Go.Ground.data }, { on := 9, ground := Go.Ground.data }], guard := none }) (v := ?_) rfl (by decide) (by kernel_rfl) (by kernel_rfl) (by kernel_rfl) (by kernel_rfl) (fun _ _ _ h => h) (Or.inl ⟨by rfl, ?_⟩) S7 ?_
        rotate_left
        · intro wz hSz
          skip
          go_simp
          (try with_reducible rfl)
        try simp only [Act.put, List.setIfInBounds_toArray, List.set_cons_zero, List.set_cons_succ]
        refine anyL_take (i := 11) (oi := { dst := some 31, op := Go.Op.move (Go.Operand.tmp 30), type := 4, pos := "valid.go:54", after := #[{ on := 10, ground := Go.Ground.data }, { on := 8, ground := Go.Ground.chain }], guard := none }) (v := ?_) rfl (by decide) (by kernel_rfl) (by kernel_rfl) (by kernel_rfl) (by kernel_rfl) (fun _ _ _ h => h) (Or.inl ⟨by rfl, ?_⟩) S7 ?_
        rotate_left
        · intro wz hSz
          skip
          go_simp
          (try with_reducible rfl)
        try simp only [Act.put, List.setIfInBounds_toArray, List.set_cons_zero, List.set_cons_succ]
        refine anyL_take (i := 12) (oi := { dst := some 32, op := Go.Op.move (Go.Operand.tmp 10), type := 3, pos := "valid.go:54", after := #[{ on := 11, ground := Go.Ground.guard }], guard := some (11, false) }) (v := ?_) rfl (by decide) (by kernel_rfl) (by kernel_rfl) (by kernel_rfl) (by kernel_rfl) (fun _ _ _ h => h) (Or.inl ⟨by rfl, ?_⟩) S7 ?_
        rotate_left
        · intro wz hSz
          skip
          go_simp
          (try with_reducible rfl)
        try simp only [Act.put, List.setIfInBounds_toArray, List.set_cons_zero, List.set_cons_succ]
        refine anyL_take (i := 13) (oi := { dst := some 33, op := Go.Op.binOp Go.BinOp.gtr 3 (Go.Operand.tmp 32) (Go.Operand.const (Go.Value.int Go.IntKind.i64 0)) 3, type := 4, pos := "valid.go:54", after := #[{ on := 12, ground := Go.Ground.data }, { on := 11, ground := Go.Ground.guard }], guard := some (11, false) }) (v := ?_) rfl (by decide) (by kernel_rfl) (by kernel_rfl) (by kernel_rfl) (by kernel_rfl) (fun _ _ _ h => h) (Or.inl ⟨by rfl, ?_⟩) S7 ?_
        rotate_left
        · intro wz hSz
          skip
          go_simp
          (try with_reducible rfl)
        try simp only [Act.put, List.setIfInBounds_toArray, List.set_cons_zero, List.set_cons_succ]
        refine anyL_take (i := 14) (oi := { dst := some 34, op := Go.Op.move (Go.Operand.tmp 33), type := 4, pos := "valid.go:54", after := #[{ on := 13, ground := Go.Ground.data }, { on := 11, ground := Go.Ground.chain }, { on := 11, ground := Go.Ground.guard }], guard := some (11, false) }) (v := ?_) rfl (by decide) (by kernel_rfl) (by kernel_rfl) (by kernel_rfl) (by kernel_rfl) (fun _ _ _ h => h) (Or.inl ⟨by rfl, ?_⟩) S7 ?_
        rotate_left
        · intro wz hSz
          skip
          go_simp
          (try with_reducible rfl)
        try simp only [Act.put, List.setIfInBounds_toArray, List.set_cons_zero, List.set_cons_succ]
        refine anyL_take (i := 15) (oi := { dst := some 35, op := Go.Op.move (Go.Operand.tmp 2), type := 45, pos := "valid.go:54", after := #[{ on := 14, ground := Go.Ground.guard }], guard := some (14, true) }) (v := undef) rfl (by decide) (by kernel_rfl) (by kernel_rfl) (by kernel_rfl) (by kernel_rfl) (fun _ _ _ h => h) (Or.inr ⟨by rfl, rfl⟩) S7 ?_
        try simp only [Act.put, List.setIfInBounds_toArray, List.set_cons_zero, List.set_cons_succ]
        refine anyL_take (i := 16) (oi := { dst := some 36, op := Go.Op.move (Go.Operand.tmp 0), type := 28, pos := "valid.go:54", after := #[{ on := 14, ground := Go.Ground.guard }], guard := some (14, true) }) (v := undef) rfl (by decide) (by kernel_rfl) (by kernel_rfl) (by kernel_rfl) (by kernel_rfl) (fun _ _ _ h => h) (Or.inr ⟨by rfl, rfl⟩) S7 ?_
        try simp only [Act.put, List.setIfInBounds_toArray, List.set_cons_zero, List.set_cons_succ]
        refine anyL_take (i := 17) (oi := { dst := some 37, op := Go.Op.move (Go.Operand.tmp 10), type := 3, pos := "valid.go:54", after := #[{ on := 14, ground := Go.Ground.guard }], guard := some (14, true) }) (v := undef) rfl (by decide) (by kernel_rfl) (by kernel_rfl) (by kernel_rfl) (by kernel_rfl) (fun _ _ _ h => h) (Or.inr ⟨by rfl, rfl⟩) S7 ?_
        try simp only [Act.put, List.setIfInBounds_toArray, List.set_cons_zero, List.set_cons_succ]
        refine anyL_take (i := 18) (oi := { dst := some 38, op := Go.Op.binOp Go.BinOp.sub 3 (Go.Operand.tmp 37) (Go.Operand.const (Go.Value.int Go.IntKind.i64 1)) 3, type := 3, pos := "valid.go:54", after := #[{ on := 17, ground := Go.Ground.data }, { on := 14, ground := Go.Ground.guard }], guard := some (14, true) }) (v := undef) rfl (by decide) (by kernel_rfl) (by kernel_rfl) (by kernel_rfl) (by kernel_rfl) (fun _ _ _ h => h) (Or.inr ⟨by rfl, rfl⟩) S7 ?_
        try simp only [Act.put, List.setIfInBounds_toArray, List.set_cons_zero, List.set_cons_succ]
        refine anyL_take (i := 19) (oi := { dst := some 39, op := Go.Op.indexAddr 28 (Go.Operand.tmp 36) (Go.Operand.tmp 38), type := 0, pos := "valid.go:54", after := #[{ on := 16, ground := Go.Ground.data }, { on := 18, ground := Go.Ground.data }, { on := 14, ground := Go.Ground.guard }], guard := some (14, true) }) (v := undef) rfl (by decide) (by kernel_rfl) (by kernel_rfl) (by kernel_rfl) (by kernel_rfl) (fun _ _ _ h => h) (Or.inr ⟨by rfl, rfl⟩) S7 ?_
        try simp only [Act.put, List.setIfInBounds_toArray, List.set_cons_zero, List.set_cons_succ]
        refine anyL_take (i := 20) (oi := { dst := some 40, op := Go.Op.load 35 (Go.Operand.tmp 39), type := 35, pos := "valid.go:54", after := #[{ on := 19, ground := Go.Ground.data }, { on := 14, ground := Go.Ground.guard }], guard := some (14, true) }) (v := undef) rfl (by decide) (by kernel_rfl) (by kernel_rfl) (by kernel_rfl) (by kernel_rfl) (fun _ _ _ h => h) (Or.inr ⟨by rfl, rfl⟩) S7 ?_
        try simp only [Act.put, List.setIfInBounds_toArray, List.set_cons_zero, List.set_cons_succ]
        refine anyL_take (i := 21) (oi := { dst := some 41, op := Go.Op.load 35 (Go.Operand.tmp 11), type := 35, pos := "valid.go:54", after := #[{ on := 14, ground := Go.Ground.guard }], guard := some (14, true) }) (v := undef) rfl (by decide) (by kernel_rfl) (by kernel_rfl) (by kernel_rfl) (by kernel_rfl) (fun _ _ _ h => h) (Or.inr ⟨by rfl, rfl⟩) S7 ?_
        try simp only [Act.put, List.setIfInBounds_toArray, List.set_cons_zero, List.set_cons_succ]
        refine anyL_take (i := 22) (oi := { dst := some 42, op := Go.Op.call { callee := Go.Callee.value (Go.Operand.tmp 35), args := #[Go.Operand.tmp 40, Go.Operand.tmp 41], argTypes := #[35, 35] }, type := 3, pos := "valid.go:54", after := #[{ on := 15, ground := Go.Ground.data }, { on := 20, ground := Go.Ground.data }, { on := 21, ground := Go.Ground.data }, { on := 14, ground := Go.Ground.chain }, { on := 14, ground := Go.Ground.guard }], guard := some (14, true) }) (v := undef) rfl (by decide) (by kernel_rfl) (by kernel_rfl) (by kernel_rfl) (by kernel_rfl) (fun _ _ _ h => h) (Or.inr ⟨by rfl, rfl⟩) S7 ?_
        try simp only [Act.put, List.setIfInBounds_toArray, List.set_cons_zero, List.set_cons_succ]
        refine anyL_take (i := 23) (oi := { dst := some 43, op := Go.Op.binOp Go.BinOp.geq 3 (Go.Operand.tmp 42) (Go.Operand.const (Go.Value.int Go.IntKind.i64 0)) 3, type := 4, pos := "valid.go:54", after := #[{ on := 22, ground := Go.Ground.data }, { on := 14, ground := Go.Ground.guard }], guard := some (14, true) }) (v := undef) rfl (by decide) (by kernel_rfl) (by kernel_rfl) (by kernel_rfl) (by kernel_rfl) (fun _ _ _ h => h) (Or.inr ⟨by rfl, rfl⟩) S7 ?_
        try simp only [Act.put, List.setIfInBounds_toArray, List.set_cons_zero, List.set_cons_succ]
        refine anyL_take (i := 24) (oi := { dst := some 44, op := Go.Op.pick (Go.Operand.tmp 34) (Go.Operand.tmp 43) (Go.Operand.const (Go.Value.bool false)), type := 4, pos := "valid.go:54", after := #[{ on := 14, ground := Go.Ground.data }, { on := 23, ground := Go.Ground.data }, { on := 11, ground := Go.Ground.guard }], guard := some (11, false) }) (v := ?_) rfl (by decide) (by kernel_rfl) (by kernel_rfl) (by kernel_rfl) (by kernel_rfl) (fun _ _ _ h => h) (Or.inl ⟨by rfl, ?_⟩) S7 ?_
        rotate_left
        · intro wz hSz
          skip
          go_simp
          (try with_reducible rfl)
        try simp only [Act.put, List.setIfInBounds_toArray, List.set_cons_zero, List.set_cons_succ]
        refine anyL_take (i := 25) (oi := { dst := some 45, op := Go.Op.pick (Go.Operand.tmp 31) (Go.Operand.const (Go.Value.bool true)) (Go.Operand.tmp 44), type := 4, pos := "valid.go:54", after := #[{ on := 11, ground := Go.Ground.data }, { on := 24, ground := Go.Ground.data }], guard := none }) (v := ?_) rfl (by decide) (by kernel_rfl) (by kernel_rfl) (by kernel_rfl) (by kernel_rfl) (fun _ _ _ h => h) (Or.inl ⟨by rfl, ?_⟩) S7 ?_
        rotate_left
        · intro wz hSz
          skip
          go_simp
          (try with_reducible rfl)
        try simp only [Act.put, List.setIfInBounds_toArray, List.set_cons_zero, List.set_cons_succ]
        refine anyL_done (by kernel_rfl) ?_ _
        obtain ⟨j0, j1, j2, j3, j4, j5⟩ := id S7
        have HB8 := Lib.hid (HBW.out.trans ((b6.trans (b7.mono b6.size)).mono HBW.out.size))
        have HS8 := Lib.hid j5
        clear hSB S0 S6 S7 b6 b7 j5 cV
        go_wp2_with fail
        refine (cI _).mono ?_
        rintro e w9 ⟨rfl, b9⟩
        have HB9 := Lib.hid (HB8.out.trans (b9.mono HB8.out.size))
        have hS9 := HS8.out.same (b9.block _ HS8.out.lt)
        have hkey := Go.WideMaps.keyOf_string_mk (P := Tryz.prog) Tryz.underlying9 (s := x.id) hks
        unfold KySet at hS9
        clear b9
        go_wp2_with (at_mapUpdate; refine wpList_mapUpdate_own _ rfl _ _ _ 81 rfl 9 4 ky_law Tryz.underlying81 (plainElem (H := Unit) Tryz.prog 4) w.heap.size ((l.take 0).map EntD.id).reverse.length _ rfl hS9 (by unfold maxLen; omega) _ _ _ rfl rfl hkey _ [] (plainElem_bool Tryz.underlying4 true) ?_; intro w10 hmap10 hgr10)
        have HN := Lib.hid (show KySet w10 w.heap.size ((l.take (0 + 1)).map EntD.id).reverse by
          rw [HTK.out, List.map_append, List.reverse_append, List.map_singleton, List.reverse_singleton, List.singleton_append]
          exact hmap10)
        have HB10 := Lib.hid (HB9.out.grown hgr10 HB9.out.size (fun g hg => by cases hg; exact Nat.le_refl _))
        clear hmap10 hgr10
        go_roundw
        case rel => exact ⟨0 + 1, hlt, by go_num, HX.out, HN.out, HB10.out⟩
        case measure => simp [RowKit.intOf]; omega
      · have hkl : k < l.length := by omega
        have hkz : (k : Int) < (l.length : Int) := by omega
        rw [lastOk_succ l k hkl] at hrel
        obtain ⟨a5, ha5, y0, y1, y2, y3, y4⟩ := HL.out.below hbr k hkl
        cases ha5
        obtain ⟨y, hy⟩ : ∃ y, l[k] = y := ⟨_, rfl⟩
        rw [hy] at y0 y1 y2 y3 y4 hrel
        obtain ⟨bb, hbb⟩ : ∃ bb, a.add (k * 5) = bb := ⟨_, rfl⟩
        rw [hbb] at y0 y1 y2 y3 y4
        simp only [Addr.add, Nat.reduceEqDiff, ↓reduceIte] at y1 y2 y3 y4
        replace y0 := mcell hb2 y0
        replace y1 := mcell hb2 y1
        replace y2 := mcell hb2 y2
        replace y3 := mcell hb2 y3
        replace y4 := mcell hb2 y4
        have hk0 : (0 : Int) < (k : Int) + 1 := by omega
        have hk1z : (k : Int) + 1 < (l.length : Int) := by omega
        have hk1n : (0 : Int) ≤ (k : Int) + 1 := by omega
        have hwk : IntKind.i64.wrap ((k : Int) + 1 - 1) = (k : Int) := by rw [show (k : Int) + 1 - 1 = k by omega]; exact wrap_small _ (by omega) (by omega)
        have hwz : (k : Int) + 1 - 1 = k := by omega
        have hwk2 : IntKind.i64.wrap (k : Int) = (k : Int) := wrap_small _ (by omega) (by omega)
        have cC := fun wx => mc_cmpE y x wx
        unfold EntV at cC
        have S0 : W2.drew.cell? ⟨wr.heap.size, 0, none⟩ = some (.string x.id) ∧ W2.drew.cell? ⟨wr.heap.size, 1, none⟩ = some (.string x.title) ∧ W2.drew.cell? ⟨wr.heap.size, 2, none⟩ = some (.string x.link) ∧ W2.drew.cell? ⟨wr.heap.size, 3, none⟩ = some (.string x.content) ∧ W2.drew.cell? ⟨wr.heap.size, 4, none⟩ = some (.int .i64 x.upd) ∧ W2.drew.cell? bb = some (.string y.id) ∧ W2.drew.cell? { block := bb.block, off := bb.off + 1 } = some (.string y.title) ∧ W2.drew.cell? { block := bb.block, off := bb.off + 2 } = some (.string y.link) ∧ W2.drew.cell? { block := bb.block, off := bb.off + 3 } = some (.string y.content) ∧ W2.drew.cell? { block := bb.block, off := bb.off + 4 } = some (.int .i64 y.upd) ∧ KySet W2.drew w.heap.size ((l.take (k + 1)).map EntD.id).reverse := ⟨k0, k1, k2, k3, k4, y0, y1, y2, y3, y4, hSd⟩
        have hSB : ∀ u1 u2 : World, Below u1.heap.size u1 u2 → (u1.cell? ⟨wr.heap.size, 0, none⟩ = some (.string x.id) ∧ u1.cell? ⟨wr.heap.size, 1, none⟩ = some (.string x.title) ∧ u1.cell? ⟨wr.heap.size, 2, none⟩ = some (.string x.link) ∧ u1.cell? ⟨wr.heap.size, 3, none⟩ = some (.string x.content) ∧ u1.cell? ⟨wr.heap.size, 4, none⟩ = some (.int .i64 x.upd) ∧ u1.cell? bb = some (.string y.id) ∧ u1.cell? { block := bb.block, off := bb.off + 1 } = some (.string y.title) ∧ u1.cell? { block := bb.block, off := bb.off + 2 } = some (.string y.link) ∧ u1.cell? { block := bb.block, off := bb.off + 3 } = some (.string y.content) ∧ u1.cell? { block := bb.block, off := bb.off + 4 } = some (.int .i64 y.upd) ∧ KySet u1 w.heap.size ((l.take (k + 1)).map EntD.id).reverse) → (u2.cell? ⟨wr.heap.size, 0, none⟩ = some (.string x.id) ∧ u2.cell? ⟨wr.heap.size, 1, none⟩ = some (.string x.title) ∧ u2.cell? ⟨wr.heap.size, 2, none⟩ = some (.string x.link) ∧ u2.cell? ⟨wr.heap.size, 3, none⟩ = some (.string x.content) ∧ u2.cell? ⟨wr.heap.size, 4, none⟩ = some (.int .i64 x.upd) ∧ u2.cell? bb = some (.string y.id) ∧ u2.cell? { block := bb.block, off := bb.off + 1 } = some (.string y.title) ∧ u2.cell? { block := bb.block, off := bb.off + 2 } = some (.string y.link) ∧ u2.cell? { block := bb.block, off := bb.off + 3 } = some (.string y.content) ∧ u2.cell? { block := bb.block, off := bb.off + 4 } = some (.int .i64 y.upd) ∧ KySet u2 w.heap.size ((l.take (k + 1)).map EntD.id).reverse) := fun u1 u2 hb h => by
          obtain ⟨z0, z1, z2, z3, z4, z5, z6, z7, z8, z9, z10⟩ := h
          exact ⟨mcell hb z0, mcell hb z1, mcell hb z2, mcell hb z3, mcell hb z4, mcell hb z5, mcell hb z6, mcell hb z7, mcell hb z8, mcell hb z9, z10.same (hb.block _ z10.lt)⟩
        clear k0 k1 k2 k3 k4 y0 y1 y2 y3 y4 hSd
        generalize cmpE y x = ce at *
        by_cases hcc : ce < 0
        · rw [decide_eq_true hcc, Bool.true_and] at hrel
          have hce2 : ¬ 0 ≤ ce := by omega
          have HX := Lib.hid hrel
          clear hrel
          go_upto_region 5 with fail
          simp only [← hW2]
          clear hW2 hb2 hbw2 a0 a1 a2 a3 a4
          go_wp2
          refine wp_region_late (S := fun w' => w'.cell? ⟨wr.heap.size, 0, none⟩ = some (.string x.id) ∧ w'.cell? ⟨wr.heap.size, 1, none⟩ = some (.string x.title) ∧ w'.cell? ⟨wr.heap.size, 2, none⟩ = some (.string x.link) ∧ w'.cell? ⟨wr.heap.size, 3, none⟩ = some (.string x.content) ∧ w'.cell? ⟨wr.heap.size, 4, none⟩ = some (.int .i64 x.upd) ∧ w'.cell? bb = some (.string y.id) ∧ w'.cell? { block := bb.block, off := bb.off + 1 } = some (.string y.title) ∧ w'.cell? { block := bb.block, off := bb.off + 2 } = some (.string y.link) ∧ w'.cell? { block := bb.block, off := bb.off + 3 } = some (.string y.content) ∧ w'.cell? { block := bb.block, off := bb.off + 4 } = some (.int .i64 y.upd) ∧ KySet w' w.heap.size ((l.take (k + 1)).map EntD.id).reverse) (D := []) (by kernel_rfl) ?_
          refine anyL_take (i := 0) (oi := { dst := some 20, op := Go.Op.move (Go.Operand.tmp 1), type := 51, pos := "valid.go:54", after := #[], guard := none }) (v := ?_) rfl (by decide) (by kernel_rfl) (by kernel_rfl) (by kernel_rfl) (by kernel_rfl) (fun _ _ _ h => h) (Or.inl ⟨by rfl, ?_⟩) S0 ?_
          rotate_left
          · intro wz hSz
            skip
            go_simp
            (try with_reducible rfl)
          try simp only [Act.put, List.setIfInBounds_toArray, List.set_cons_zero, List.set_cons_succ]
          refine anyL_take (i := 1) (oi := { dst := some 21, op := Go.Op.load 35 (Go.Operand.tmp 11), type := 35, pos := "valid.go:54", after := #[], guard := none }) (v := ?_) rfl (by decide) (by kernel_rfl) (by kernel_rfl) (by kernel_rfl) (by kernel_rfl) (fun _ _ _ h => h) (Or.inl ⟨by rfl, ?_⟩) S0 ?_
          rotate_left
          · intro wz hSz
            obtain ⟨z0, z1, z2, z3, z4, z5, z6, z7, z8, z9, z10⟩ := hSz
            go_simp
            (try with_reducible rfl)
          try simp only [Act.put, List.setIfInBounds_toArray, List.set_cons_zero, List.set_cons_succ]
          refine anyL_ready (rs := [2]) (by kernel_rfl) (by simp) ?_
          refine AllL.cons (o := { dst := some 22, op := Go.Op.call { callee := Go.Callee.value (Go.Operand.tmp 20), args := #[Go.Operand.tmp 21], argTypes := #[35] }, type := 4, pos := "valid.go:54", after := #[{ on := 0, ground := Go.Ground.data }, { on := 1, ground := Go.Ground.data }], guard := none }) rfl (fun K' hK => ?_) AllL.nil
          rw [if_pos (by rfl)]
          go_simp
          go_at_call 26
          refine cV.mono ?_
          rintro e w6 ⟨rfl, b6⟩
          have S6 := hSB _ _ b6 S0
          refine hK _ _ S6 ?_
          clear hK K'
          try simp only [Act.put, List.setIfInBounds_toArray, List.set_cons_zero, List.set_cons_succ]
          refine anyL_take (i := 3) (oi := { dst := some 23, op := Go.Op.unOp Go.UnOp.not 4 (Go.Operand.tmp 22), type := 4, pos := "valid.go:54", after := #[{ on := 2, ground := Go.Ground.data }], guard := none }) (v := ?_) rfl (by decide) (by kernel_rfl) (by kernel_rfl) (by kernel_rfl) (by kernel_rfl) (fun _ _ _ h => h) (Or.inl ⟨by rfl, ?_⟩) S6 ?_
          rotate_left
          · intro wz hSz
            skip
            go_simp
            (try with_reducible rfl)
          try simp only [Act.put, List.setIfInBounds_toArray, List.set_cons_zero, List.set_cons_succ]
          refine anyL_take (i := 4) (oi := { dst := some 24, op := Go.Op.move (Go.Operand.tmp 23), type := 4, pos := "valid.go:54", after := #[{ on := 3, ground := Go.Ground.data }, { on := 2, ground := Go.Ground.chain }], guard := none }) (v := ?_) rfl (by decide) (by kernel_rfl) (by kernel_rfl) (by kernel_rfl) (by kernel_rfl) (fun _ _ _ h => h) (Or.inl ⟨by rfl, ?_⟩) S6 ?_
          rotate_left
          · intro wz hSz
            skip
            go_simp
            (try with_reducible rfl)
          try simp only [Act.put, List.setIfInBounds_toArray, List.set_cons_zero, List.set_cons_succ]
          refine anyL_take (i := 5) (oi := { dst := some 25, op := Go.Op.move (Go.Operand.tmp 9), type := 81, pos := "valid.go:54", after := #[{ on := 4, ground := Go.Ground.guard }], guard := some (4, false) }) (v := ?_) rfl (by decide) (by kernel_rfl) (by kernel_rfl) (by kernel_rfl) (by kernel_rfl) (fun _ _ _ h => h) (Or.inl ⟨by rfl, ?_⟩) S6 ?_
          rotate_left
          · intro wz hSz
            skip
            go_simp
            (try with_reducible rfl)
          try simp only [Act.put, List.setIfInBounds_toArray, List.set_cons_zero, List.set_cons_succ]
          refine anyL_take (i := 6) (oi := { dst := some 26, op := Go.Op.move (Go.Operand.tmp 3), type := 46, pos := "valid.go:54", after := #[{ on := 4, ground := Go.Ground.guard }], guard := some (4, false) }) (v := ?_) rfl (by decide) (by kernel_rfl) (by kernel_rfl) (by kernel_rfl) (by kernel_rfl) (fun _ _ _ h => h) (Or.inl ⟨by rfl, ?_⟩) S6 ?_
          rotate_left
          · intro wz hSz
            skip
            go_simp
            (try with_reducible rfl)
          try simp only [Act.put, List.setIfInBounds_toArray, List.set_cons_zero, List.set_cons_succ]
          refine anyL_take (i := 7) (oi := { dst := some 27, op := Go.Op.load 35 (Go.Operand.tmp 11), type := 35, pos := "valid.go:54", after := #[{ on := 4, ground := Go.Ground.guard }], guard := some (4, false) }) (v := ?_) rfl (by decide) (by kernel_rfl) (by kernel_rfl) (by kernel_rfl) (by kernel_rfl) (fun _ _ _ h => h) (Or.inl ⟨by rfl, ?_⟩) S6 ?_
          rotate_left
          · intro wz hSz
            obtain ⟨z0, z1, z2, z3, z4, z5, z6, z7, z8, z9, z10⟩ := hSz
            go_simp
            (try with_reducible rfl)
          try simp only [Act.put, List.setIfInBounds_toArray, List.set_cons_zero, List.set_cons_succ]
          refine anyL_ready (rs := [8]) (by kernel_rfl) (by simp) ?_
          refine AllL.cons (o := { dst := some 28, op := Go.Op.call { callee := Go.Callee.value (Go.Operand.tmp 26), args := #[Go.Operand.tmp 27], argTypes := #[35] }, type := 9, pos := "valid.go:54", after := #[{ on := 6, ground := Go.Ground.data }, { on := 7, ground := Go.Ground.data }, { on := 4, ground := Go.Ground.chain }, { on := 4, ground := Go.Ground.guard }], guard := some (4, false) }) rfl (fun K' hK => ?_) AllL.nil
          rw [if_pos (by rfl)]
          go_simp
          go_at_call 48
          refine (cI _).mono ?_
          rintro e w7 ⟨rfl, b7⟩
          have S7 := hSB _ _ b7 S6
          refine hK _ _ S7 ?_
          clear hK K'
          try simp only [Act.put, List.setIfInBounds_toArray, List.set_cons_zero, List.set_cons_succ]
          refine anyL_take (i := 9) (oi := { dst := some 29, op := Go.Op.lookup 81 (Go.Operand.tmp 25) (Go.Operand.tmp 28) false, type := 4, pos := "valid.go:54", after := #[{ on := 5, ground := Go.Ground.data }, { on := 8, ground := Go.Ground.data }, { on := 4, ground := Go.Ground.guard }], guard := some (4, false) }) (v := ?_) rfl (by decide) (by kernel_rfl) (by kernel_rfl) (by kernel_rfl) (by kernel_rfl) (fun _ _ _ h => h) (Or.inl ⟨by rfl, ?_⟩) S7 ?_
          rotate_left
          · intro wz hSz
            obtain ⟨z0, z1, z2, z3, z4, z5, z6, z7, z8, z9, z10⟩ := hSz
            have hat := z10.look_no x.id hks hin
            go_simp
            (try with_reducible rfl)
          try simp only [Act.put, List.setIfInBounds_toArray, List.set_cons_zero, List.set_cons_succ]
          refine anyL_take (i := 10) (oi := { dst := some 30, op := Go.Op.pick (Go.Operand.tmp 24) (Go.Operand.const (Go.Value.bool true)) (Go.Operand.tmp 29), type := 4, pos := "valid.go:54", after := #[{ on := 4, ground := Go.Ground.data }, { on := 9, ground := Go.Ground.data }], guard := none }) (v := ?_) rfl (by decide) (by kernel_rfl) (by kernel_rfl) (by kernel_rfl) (by kernel_rfl) (fun _ _ _ h => h) (Or.inl ⟨by rfl, ?_⟩) S7 ?_
          rotate_left
          · intro wz hSz
            skip
            go_simp
            (try with_reducible rfl)
          try simp only [Act.put, List.setIfInBounds_toArray, List.set_cons_zero, List.set_cons_succ]
          refine anyL_take (i := 11) (oi := { dst := some 31, op := Go.Op.move (Go.Operand.tmp 30), type := 4, pos := "valid.go:54", after := #[{ on := 10, ground := Go.Ground.data }, { on := 8, ground := Go.Ground.chain }], guard := none }) (v := ?_) rfl (by decide) (by kernel_rfl) (by kernel_rfl) (by kernel_rfl) (by kernel_rfl) (fun _ _ _ h => h) (Or.inl ⟨by rfl, ?_⟩) S7 ?_
          rotate_left
          · intro wz hSz
            skip
            go_simp
            (try with_reducible rfl)
          try simp only [Act.put, List.setIfInBounds_toArray, List.set_cons_zero, List.set_cons_succ]
          refine anyL_take (i := 12) (oi := { dst := some 32, op := Go.Op.move (Go.Operand.tmp 10), type := 3, pos := "valid.go:54", after := #[{ on := 11, ground := Go.Ground.guard }], guard := some (11, false) }) (v := ?_) rfl (by decide) (by kernel_rfl) (by kernel_rfl) (by kernel_rfl) (by kernel_rfl) (fun _ _ _ h => h) (Or.inl ⟨by rfl, ?_⟩) S7 ?_
          rotate_left
          · intro wz hSz
            skip
            go_simp
            (try with_reducible rfl)
          try simp only [Act.put, List.setIfInBounds_toArray, List.set_cons_zero, List.set_cons_succ]
          refine anyL_take (i := 13) (oi := { dst := some 33, op := Go.Op.binOp Go.BinOp.gtr 3 (Go.Operand.tmp 32) (Go.Operand.const (Go.Value.int Go.IntKind.i64 0)) 3, type := 4, pos := "valid.go:54", after := #[{ on := 12, ground := Go.Ground.data }, { on := 11, ground := Go.Ground.guard }], guard := some (11, false) }) (v := ?_) rfl (by decide) (by kernel_rfl) (by kernel_rfl) (by kernel_rfl) (by kernel_rfl) (fun _ _ _ h => h) (Or.inl ⟨by rfl, ?_⟩) S7 ?_
          rotate_left
          · intro wz hSz
            skip
            go_simp
            (try with_reducible rfl)
          try simp only [Act.put, List.setIfInBounds_toArray, List.set_cons_zero, List.set_cons_succ]
          refine anyL_take (i := 14) (oi := { dst := some 34, op := Go.Op.move (Go.Operand.tmp 33), type := 4, pos := "valid.go:54", after := #[{ on := 13, ground := Go.Ground.data }, { on := 11, ground := Go.Ground.chain }, { on := 11, ground := Go.Ground.guard }], guard := some (11, false) }) (v := ?_) rfl (by decide) (by kernel_rfl) (by kernel_rfl) (by kernel_rfl) (by kernel_rfl) (fun _ _ _ h => h) (Or.inl ⟨by rfl, ?_⟩) S7 ?_
          rotate_left
          · intro wz hSz
            skip
            go_simp
            (try with_reducible rfl)
          try simp only [Act.put, List.setIfInBounds_toArray, List.set_cons_zero, List.set_cons_succ]
          refine anyL_take (i := 15) (oi := { dst := some 35, op := Go.Op.move (Go.Operand.tmp 2), type := 45, pos := "valid.go:54", after := #[{ on := 14, ground := Go.Ground.guard }], guard := some (14, true) }) (v := ?_) rfl (by decide) (by kernel_rfl) (by kernel_rfl) (by kernel_rfl) (by kernel_rfl) (fun _ _ _ h => h) (Or.inl ⟨by rfl, ?_⟩) S7 ?_
          rotate_left
          · intro wz hSz
            skip
            go_simp
            (try with_reducible rfl)
          try simp only [Act.put, List.setIfInBounds_toArray, List.set_cons_zero, List.set_cons_succ]
          refine anyL_take (i := 16) (oi := { dst := some 36, op := Go.Op.move (Go.Operand.tmp 0), type := 28, pos := "valid.go:54", after := #[{ on := 14, ground := Go.Ground.guard }], guard := some (14, true) }) (v := ?_) rfl (by decide) (by kernel_rfl) (by kernel_rfl) (by kernel_rfl) (by kernel_rfl) (fun _ _ _ h => h) (Or.inl ⟨by rfl, ?_⟩) S7 ?_
          rotate_left
          · intro wz hSz
            skip
            go_simp
            (try with_reducible rfl)
          try simp only [Act.put, List.setIfInBounds_toArray, List.set_cons_zero, List.set_cons_succ]
          refine anyL_take (i := 17) (oi := { dst := some 37, op := Go.Op.move (Go.Operand.tmp 10), type := 3, pos := "valid.go:54", after := #[{ on := 14, ground := Go.Ground.guard }], guard := some (14, true) }) (v := ?_) rfl (by decide) (by kernel_rfl) (by kernel_rfl) (by kernel_rfl) (by kernel_rfl) (fun _ _ _ h => h) (Or.inl ⟨by rfl, ?_⟩) S7 ?_
          rotate_left
          · intro wz hSz
            skip
            go_simp
            (try with_reducible rfl)
          try simp only [Act.put, List.setIfInBounds_toArray, List.set_cons_zero, List.set_cons_succ]
          refine anyL_take (i := 18) (oi := { dst := some 38, op := Go.Op.binOp Go.BinOp.sub 3 (Go.Operand.tmp 37) (Go.Operand.const (Go.Value.int Go.IntKind.i64 1)) 3, type := 3, pos := "valid.go:54", after := #[{ on := 17, ground := Go.Ground.data }, { on := 14, ground := Go.Ground.guard }], guard := some (14, true) }) (v := ?_) rfl (by decide) (by kernel_rfl) (by kernel_rfl) (by kernel_rfl) (by kernel_rfl) (fun _ _ _ h => h) (Or.inl ⟨by rfl, ?_⟩) S7 ?_
          rotate_left
          · intro wz hSz
            skip
            go_simp
            (try with_reducible rfl)
          try simp only [Act.put, List.setIfInBounds_toArray, List.set_cons_zero, List.set_cons_succ]
          refine anyL_take (i := 19) (oi := { dst := some 39, op := Go.Op.indexAddr 28 (Go.Operand.tmp 36) (Go.Operand.tmp 38), type := 0, pos := "valid.go:54", after := #[{ on := 16, ground := Go.Ground.data }, { on := 18, ground := Go.Ground.data }, { on := 14, ground := Go.Ground.guard }], guard := some (14, true) }) (v := ?_) rfl (by decide) (by kernel_rfl) (by kernel_rfl) (by kernel_rfl) (by kernel_rfl) (fun _ _ _ h => h) (Or.inl ⟨by rfl, ?_⟩) S7 ?_
          rotate_left
          · intro wz hSz
            skip
            go_simp
            (try with_reducible rfl)
          try simp only [Act.put, List.setIfInBounds_toArray, List.set_cons_zero, List.set_cons_succ]
          refine anyL_take (i := 20) (oi := { dst := some 40, op := Go.Op.load 35 (Go.Operand.tmp 39), type := 35, pos := "valid.go:54", after := #[{ on := 19, ground := Go.Ground.data }, { on := 14, ground := Go.Ground.guard }], guard := some (14, true) }) (v := ?_) rfl (by decide) (by kernel_rfl) (by kernel_rfl) (by kernel_rfl) (by kernel_rfl) (fun _ _ _ h => h) (Or.inl ⟨by rfl, ?_⟩) S7 ?_
          rotate_left
          · intro wz hSz
            obtain ⟨z0, z1, z2, z3, z4, z5, z6, z7, z8, z9, z10⟩ := hSz
            go_simp
            (try with_reducible rfl)
          try simp only [Act.put, List.setIfInBounds_toArray, List.set_cons_zero, List.set_cons_succ]
          refine anyL_take (i := 21) (oi := { dst := some 41, op := Go.Op.load 35 (Go.Operand.tmp 11), type := 35, pos := "valid.go:54", after := #[{ on := 14, ground := Go.Ground.guard }], guard := some (14, true) }) (v := ?_) rfl (by decide) (by kernel_rfl) (by kernel_rfl) (by kernel_rfl) (by kernel_rfl) (fun _ _ _ h => h) (Or.inl ⟨by rfl, ?_⟩) S7 ?_
          rotate_left
          · intro wz hSz
            obtain ⟨z0, z1, z2, z3, z4, z5, z6, z7, z8, z9, z10⟩ := hSz
            go_simp
            (try with_reducible rfl)
          try simp only [Act.put, List.setIfInBounds_toArray, List.set_cons_zero, List.set_cons_succ]
          refine anyL_ready (rs := [22]) (by kernel_rfl) (by simp) ?_
          refine AllL.cons (o := { dst := some 42, op := Go.Op.call { callee := Go.Callee.value (Go.Operand.tmp 35), args := #[Go.Operand.tmp 40, Go.Operand.tmp 41], argTypes := #[35, 35] }, type := 3, pos := "valid.go:54", after := #[{ on := 15, ground := Go.Ground.data }, { on := 20, ground := Go.Ground.data }, { on := 21, ground := Go.Ground.data }, { on := 14, ground := Go.Ground.chain }, { on := 14, ground := Go.Ground.guard }], guard := some (14, true) }) rfl (fun K' hK => ?_) AllL.nil
          rw [if_pos (by rfl)]
          go_simp
          go_at_call 18
          refine (cC _).mono ?_
          rintro e w8 ⟨rfl, b8⟩
          have S8 := hSB _ _ b8 S7
          refine hK _ _ S8 ?_
          clear hK K'
          try simp only [Act.put, List.setIfInBounds_toArray, List.set_cons_zero, List.set_cons_succ]
          refine anyL_take (i := 23) (oi := { dst := some 43, op := Go.Op.binOp Go.BinOp.geq 3 (Go.Operand.tmp 42) (Go.Operand.const (Go.Value.int Go.IntKind.i64 0)) 3, type := 4, pos := "valid.go:54", after := #[{ on := 22, ground := Go.Ground.data }, { on := 14, ground := Go.Ground.guard }], guard := some (14, true) }) (v := ?_) rfl (by decide) (by kernel_rfl) (by kernel_rfl) (by kernel_rfl) (by kernel_rfl) (fun _ _ _ h => h) (Or.inl ⟨by rfl, ?_⟩) S8 ?_
          rotate_left
          · intro wz hSz
            skip
            go_simp
            (try with_reducible rfl)
          try simp only [Act.put, List.setIfInBounds_toArray, List.set_cons_zero, List.set_cons_succ]
          refine anyL_take (i := 24) (oi := { dst := some 44, op := Go.Op.pick (Go.Operand.tmp 34) (Go.Operand.tmp 43) (Go.Operand.const (Go.Value.bool false)), type := 4, pos := "valid.go:54", after := #[{ on := 14, ground := Go.Ground.data }, { on := 23, ground := Go.Ground.data }, { on := 11, ground := Go.Ground.guard }], guard := some (11, false) }) (v := ?_) rfl (by decide) (by kernel_rfl) (by kernel_rfl) (by kernel_rfl) (by kernel_rfl) (fun _ _ _ h => h) (Or.inl ⟨by rfl, ?_⟩) S8 ?_
          rotate_left
          · intro wz hSz
            skip
            go_simp
            (try with_reducible rfl)
          try simp only [Act.put, List.setIfInBounds_toArray, List.set_cons_zero, List.set_cons_succ]
          refine anyL_take (i := 25) (oi := { dst := some 45, op := Go.Op.pick (Go.Operand.tmp 31) (Go.Operand.const (Go.Value.bool true)) (Go.Operand.tmp 44), type := 4, pos := "valid.go:54", after := #[{ on := 11, ground := Go.Ground.data }, { on := 24, ground := Go.Ground.data }], guard := none }) (v := ?_) rfl (by decide) (by kernel_rfl) (by kernel_rfl) (by kernel_rfl) (by kernel_rfl) (fun _ _ _ h => h) (Or.inl ⟨by rfl, ?_⟩) S8 ?_
          rotate_left
          · intro wz hSz
            skip
            go_simp
            (try with_reducible rfl)
          try simp only [Act.put, List.setIfInBounds_toArray, List.set_cons_zero, List.set_cons_succ]
          refine anyL_done (by kernel_rfl) ?_ _
          obtain ⟨j0, j1, j2, j3, j4, j5, j6, j7, j8, j9, j10⟩ := id S8
          have HB8 := Lib.hid (HBW.out.trans (((b6.trans (b7.mono b6.size)).trans (b8.mono (Nat.le_trans b6.size b7.size))).mono HBW.out.size))
          have HS8 := Lib.hid j10
          clear hSB S0 S6 S7 b6 b7 S8 b8 j10 cV
          go_wp2_with fail
          refine (cI _).mono ?_
          rintro e w9 ⟨rfl, b9⟩
          have HB9 := Lib.hid (HB8.out.trans (b9.mono HB8.out.size))
          have hS9 := HS8.out.same (b9.block _ HS8.out.lt)
          have hkey := Go.WideMaps.keyOf_string_mk (P := Tryz.prog) Tryz.underlying9 (s := x.id) hks
          unfold KySet at hS9
          clear b9
          go_wp2_with (at_mapUpdate; refine wpList_mapUpdate_own _ rfl _ _ _ 81 rfl 9 4 ky_law Tryz.underlying81 (plainElem (H := Unit) Tryz.prog 4) w.heap.size ((l.take (k + 1)).map EntD.id).reverse.length _ rfl hS9 (by unfold maxLen; omega) _ _ _ rfl rfl hkey _ [] (plainElem_bool Tryz.underlying4 true) ?_; intro w10 hmap10 hgr10)
          have HN := Lib.hid (show KySet w10 w.heap.size ((l.take (k + 1 + 1)).map EntD.id).reverse by
            rw [HTK.out, List.map_append, List.reverse_append, List.map_singleton, List.reverse_singleton, List.singleton_append]
            exact hmap10)
          have HB10 := Lib.hid (HB9.out.grown hgr10 HB9.out.size (fun g hg => by cases hg; exact Nat.le_refl _))
          clear hmap10 hgr10
          go_roundw
          case rel => exact ⟨k + 1 + 1, hlt, by go_num, HX.out, HN.out, HB10.out⟩
          case measure => simp [RowKit.intOf]; omega
        · rw [decide_eq_false hcc, Bool.false_and] at hrel
          have hce2 : 0 ≤ ce := by omega
          have HX := Lib.hid hrel
          clear hrel
          go_upto_region 5 with fail
          simp only [← hW2]
          clear hW2 hb2 hbw2 a0 a1 a2 a3 a4
          go_wp2
          refine wp_region_late (S := fun w' => w'.cell? ⟨wr.heap.size, 0, none⟩ = some (.string x.id) ∧ w'.cell? ⟨wr.heap.size, 1, none⟩ = some (.string x.title) ∧ w'.cell? ⟨wr.heap.size, 2, none⟩ = some (.string x.link) ∧ w'.cell? ⟨wr.heap.size, 3, none⟩ = some (.string x.content) ∧ w'.cell? ⟨wr.heap.size, 4, none⟩ = some (.int .i64 x.upd) ∧ w'.cell? bb = some (.string y.id) ∧ w'.cell? { block := bb.block, off := bb.off + 1 } = some (.string y.title) ∧ w'.cell? { block := bb.block, off := bb.off + 2 } = some (.string y.link) ∧ w'.cell? { block := bb.block, off := bb.off + 3 } = some (.string y.content) ∧ w'.cell? { block := bb.block, off := bb.off + 4 } = some (.int .i64 y.upd) ∧ KySet w' w.heap.size ((l.take (k + 1)).map EntD.id).reverse) (D := []) (by kernel_rfl) ?_
          refine anyL_take (i := 0) (oi := { dst := some 20, op := Go.Op.move (Go.Operand.tmp 1), type := 51, pos := "valid.go:54", after := #[], guard := none }) (v := ?_) rfl (by decide) (by kernel_rfl) (by kernel_rfl) (by kernel_rfl) (by kernel_rfl) (fun _ _ _ h => h) (Or.inl ⟨by rfl, ?_⟩) S0 ?_
          rotate_left
          · intro wz hSz
            skip
            go_simp
            (try with_reducible rfl)
          try simp only [Act.put, List.setIfInBounds_toArray, List.set_cons_zero, List.set_cons_succ]
          refine anyL_take (i := 1) (oi := { dst := some 21, op := Go.Op.load 35 (Go.Operand.tmp 11), type := 35, pos := "valid.go:54", after := #[], guard := none }) (v := ?_) rfl (by decide) (by kernel_rfl) (by kernel_rfl) (by kernel_rfl) (by kernel_rfl) (fun _ _ _ h => h) (Or.inl ⟨by rfl, ?_⟩) S0 ?_
          rotate_left
          · intro wz hSz
            obtain ⟨z0, z1, z2, z3, z4, z5, z6, z7, z8, z9, z10⟩ := hSz
            go_simp
            (try with_reducible rfl)
          try simp only [Act.put, List.setIfInBounds_toArray, List.set_cons_zero, List.set_cons_succ]
          refine anyL_ready (rs := [2]) (by kernel_rfl) (by simp) ?_
          refine AllL.cons (o := { dst := some 22, op := Go.Op.call { callee := Go.Callee.value (Go.Operand.tmp 20), args := #[Go.Operand.tmp 21], argTypes := #[35] }, type := 4, pos := "valid.go:54", after := #[{ on := 0, ground := Go.Ground.data }, { on := 1, ground := Go.Ground.data }], guard := none }) rfl (fun K' hK => ?_) AllL.nil
          rw [if_pos (by rfl)]
          go_simp
          go_at_call 26
          refine cV.mono ?_
          rintro e w6 ⟨rfl, b6⟩
          have S6 := hSB _ _ b6 S0
          refine hK _ _ S6 ?_
          clear hK K'
          try simp only [Act.put, List.setIfInBounds_toArray, List.set_cons_zero, List.set_cons_succ]
          refine anyL_take (i := 3) (oi := { dst := some 23, op := Go.Op.unOp Go.UnOp.not 4 (Go.Operand.tmp 22), type := 4, pos := "valid.go:54", after := #[{ on := 2, ground := Go.Ground.data }], guard := none }) (v := ?_) rfl (by decide) (by kernel_rfl) (by kernel_rfl) (by kernel_rfl) (by kernel_rfl) (fun _ _ _ h => h) (Or.inl ⟨by rfl, ?_⟩) S6 ?_
          rotate_left
          · intro wz hSz
            skip
            go_simp
            (try with_reducible rfl)
          try simp only [Act.put, List.setIfInBounds_toArray, List.set_cons_zero, List.set_cons_succ]
          refine anyL_take (i := 4) (oi := { dst := some 24, op := Go.Op.move (Go.Operand.tmp 23), type := 4, pos := "valid.go:54", after := #[{ on := 3, ground := Go.Ground.data }, { on := 2, ground := Go.Ground.chain }], guard := none }) (v := ?_) rfl (by decide) (by kernel_rfl) (by kernel_rfl) (by kernel_rfl) (by kernel_rfl) (fun _ _ _ h => h) (Or.inl ⟨by rfl, ?_⟩) S6 ?_
          rotate_left
          · intro wz hSz
            skip
            go_simp
            (try with_reducible rfl)
          try simp only [Act.put, List.setIfInBounds_toArray, List.set_cons_zero, List.set_cons_succ]
          refine anyL_take (i := 5) (oi := { dst := some 25, op := Go.Op.move (Go.Operand.tmp 9), type := 81, pos := "valid.go:54", after := #[{ on := 4, ground := Go.Ground.guard }], guard := some (4, false) }) (v := ?_) rfl (by decide) (by kernel_rfl) (by kernel_rfl) (by kernel_rfl) (by kernel_rfl) (fun _ _ _ h => h) (Or.inl ⟨by rfl, ?_⟩) S6 ?_
          rotate_left
          · intro wz hSz
            skip
            go_simp
            (try with_reducible rfl)
          try simp only [Act.put, List.setIfInBounds_toArray, List.set_cons_zero, List.set_cons_succ]
          refine anyL_take (i := 6) (oi := { dst := some 26, op := Go.Op.move (Go.Operand.tmp 3), type := 46, pos := "valid.go:54", after := #[{ on := 4, ground := Go.Ground.guard }], guard := some (4, false) }) (v := ?_) rfl (by decide) (by kernel_rfl) (by kernel_rfl) (by kernel_rfl) (by kernel_rfl) (fun _ _ _ h => h) (Or.inl ⟨by rfl, ?_⟩) S6 ?_
          rotate_left
          · intro wz hSz
            skip
            go_simp
            (try with_reducible rfl)
          try simp only [Act.put, List.setIfInBounds_toArray, List.set_cons_zero, List.set_cons_succ]
          refine anyL_take (i := 7) (oi := { dst := some 27, op := Go.Op.load 35 (Go.Operand.tmp 11), type := 35, pos := "valid.go:54", after := #[{ on := 4, ground := Go.Ground.guard }], guard := some (4, false) }) (v := ?_) rfl (by decide) (by kernel_rfl) (by kernel_rfl) (by kernel_rfl) (by kernel_rfl) (fun _ _ _ h => h) (Or.inl ⟨by rfl, ?_⟩) S6 ?_
          rotate_left
          · intro wz hSz
            obtain ⟨z0, z1, z2, z3, z4, z5, z6, z7, z8, z9, z10⟩ := hSz
            go_simp
            (try with_reducible rfl)
          try simp only [Act.put, List.setIfInBounds_toArray, List.set_cons_zero, List.set_cons_succ]
          refine anyL_ready (rs := [8]) (by kernel_rfl) (by simp) ?_
          refine AllL.cons (o := { dst := some 28, op := Go.Op.call { callee := Go.Callee.value (Go.Operand.tmp 26), args := #[Go.Operand.tmp 27], argTypes := #[35] }, type := 9, pos := "valid.go:54", after := #[{ on := 6, ground := Go.Ground.data }, { on := 7, ground := Go.Ground.data }, { on := 4, ground := Go.Ground.chain }, { on := 4, ground := Go.Ground.guard }], guard := some (4, false) }) rfl (fun K' hK => ?_) AllL.nil
          rw [if_pos (by rfl)]
          go_simp
          go_at_call 48
          refine (cI _).mono ?_
          rintro e w7 ⟨rfl, b7⟩
          have S7 := hSB _ _ b7 S6
          refine hK _ _ S7 ?_
          clear hK K'
          try simp only [Act.put, List.setIfInBounds_toArray, List.set_cons_zero, List.set_cons_succ]
          refine anyL_take (i := 9) (oi := { dst := some 29, op := Go.Op.lookup 81 (Go.Operand.tmp 25) (Go.Operand.tmp 28) false, type := 4, pos := "valid.go:54", after := #[{ on := 5, ground := Go.Ground.data }, { on := 8, ground := Go.Ground.data }, { on := 4, ground := Go.Ground.guard }], guard := some (4, false) }) (v := ?_) rfl (by decide) (by kernel_rfl) (by kernel_rfl) (by kernel_rfl) (by kernel_rfl) (fun _ _ _ h => h) (Or.inl ⟨by rfl, ?_⟩) S7 ?_
          rotate_left
          · intro wz hSz
            obtain ⟨z0, z1, z2, z3, z4, z5, z6, z7, z8, z9, z10⟩ := hSz
            have hat := z10.look_no x.id hks hin
            go_simp
            (try with_reducible rfl)
          try simp only [Act.put, List.setIfInBounds_toArray, List.set_cons_zero, List.set_cons_succ]
          refine anyL_take (i := 10) (oi := { dst := some 30, op := Go.Op.pick (Go.Operand.tmp 24) (Go.Operand.const (Go.Value.bool true)) (Go.Operand.tmp 29), type := 4, pos := "valid.go:54", after := #[{ on := 4, ground := Go.Ground.data }, { on := 9, ground := Go.Ground.data }], guard := none }) (v := ?_) rfl (by decide) (by kernel_rfl) (by kernel_rfl) (by kernel_rfl) (by kernel_rfl) (fun _ _ _ h => h) (Or.inl ⟨by rfl, ?_⟩) S7 ?_
          rotate_left
          · intro wz hSz
            skip
            go_simp
            (try with_reducible rfl)
          try simp only [Act.put, List.setIfInBounds_toArray, List.set_cons_zero, List.set_cons_succ]
          refine anyL_take (i := 11) (oi := { dst := some 31, op := Go.Op.move (Go.Operand.tmp 30), type := 4, pos := "valid.go:54", after := #[{ on := 10, ground := Go.Ground.data }, { on := 8, ground := Go.Ground.chain }], guard := none }) (v := ?_) rfl (by decide) (by kernel_rfl) (by kernel_rfl) (by kernel_rfl) (by kernel_rfl) (fun _ _ _ h => h) (Or.inl ⟨by rfl, ?_⟩) S7 ?_
          rotate_left
          · intro wz hSz
            skip
            go_simp
            (try with_reducible rfl)
          try simp only [Act.put, List.setIfInBounds_toArray, List.set_cons_zero, List.set_cons_succ]
          refine anyL_take (i := 12) (oi := { dst := some 32, op := Go.Op.move (Go.Operand.tmp 10), type := 3, pos := "valid.go:54", after := #[{ on := 11, ground := Go.Ground.guard }], guard := some (11, false) }) (v := ?_) rfl (by decide) (by kernel_rfl) (by kernel_rfl) (by kernel_rfl) (by kernel_rfl) (fun _ _ _ h => h) (Or.inl ⟨by rfl, ?_⟩) S7 ?_
          rotate_left
          · intro wz hSz
            skip
            go_simp
            (try with_reducible rfl)
          try simp only [Act.put, List.setIfInBounds_toArray, List.set_cons_zero, List.set_cons_succ]
          refine anyL_take (i := 13) (oi := { dst := some 33, op := Go.Op.binOp Go.BinOp.gtr 3 (Go.Operand.tmp 32) (Go.Operand.const (Go.Value.int Go.IntKind.i64 0)) 3, type := 4, pos := "valid.go:54", after := #[{ on := 12, ground := Go.Ground.data }, { on := 11, ground := Go.Ground.guard }], guard := some (11, false) }) (v := ?_) rfl (by decide) (by kernel_rfl) (by kernel_rfl) (by kernel_rfl) (by kernel_rfl) (fun _ _ _ h => h) (Or.inl ⟨by rfl, ?_⟩) S7 ?_
          rotate_left
          · intro wz hSz
            skip
            go_simp
            (try with_reducible rfl)
          try simp only [Act.put, List.setIfInBounds_toArray, List.set_cons_zero, List.set_cons_succ]
          refine anyL_take (i := 14) (oi := { dst := some 34, op := Go.Op.move (Go.Operand.tmp 33), type := 4, pos := "valid.go:54", after := #[{ on := 13, ground := Go.Ground.data }, { on := 11, ground := Go.Ground.chain }, { on := 11, ground := Go.Ground.guard }], guard := some (11, false) }) (v := ?_) rfl (by decide) (by kernel_rfl) (by kernel_rfl) (by kernel_rfl) (by kernel_rfl) (fun _ _ _ h => h) (Or.inl ⟨by rfl, ?_⟩) S7 ?_
          rotate_left
          · intro wz hSz
            skip
            go_simp
            (try with_reducible rfl)
          try simp only [Act.put, List.setIfInBounds_toArray, List.set_cons_zero, List.set_cons_succ]
          refine anyL_take (i := 15) (oi := { dst := some 35, op := Go.Op.move (Go.Operand.tmp 2), type := 45, pos := "valid.go:54", after := #[{ on := 14, ground := Go.Ground.guard }], guard := some (14, true) }) (v := ?_) rfl (by decide) (by kernel_rfl) (by kernel_rfl) (by kernel_rfl) (by kernel_rfl) (fun _ _ _ h => h) (Or.inl ⟨by rfl, ?_⟩) S7 ?_
          rotate_left
          · intro wz hSz
            skip
            go_simp
            (try with_reducible rfl)
          try simp only [Act.put, List.setIfInBounds_toArray, List.set_cons_zero, List.set_cons_succ]
          refine anyL_take (i := 16) (oi := { dst := some 36, op := Go.Op.move (Go.Operand.tmp 0), type := 28, pos := "valid.go:54", after := #[{ on := 14, ground := Go.Ground.guard }], guard := some (14, true) }) (v := ?_) rfl (by decide) (by kernel_rfl) (by kernel_rfl) (by kernel_rfl) (by kernel_rfl) (fun _ _ _ h => h) (Or.inl ⟨by rfl, ?_⟩) S7 ?_
          rotate_left
          · intro wz hSz
            skip
            go_simp
            (try with_reducible rfl)
          try simp only [Act.put, List.setIfInBounds_toArray, List.set_cons_zero, List.set_cons_succ]
          refine anyL_take (i := 17) (oi := { dst := some 37, op := Go.Op.move (Go.Operand.tmp 10), type := 3, pos := "valid.go:54", after := #[{ on := 14, ground := Go.Ground.guard }], guard := some (14, true) }) (v := ?_) rfl (by decide) (by kernel_rfl) (by kernel_rfl) (by kernel_rfl) (by kernel_rfl) (fun _ _ _ h => h) (Or.inl ⟨by rfl, ?_⟩) S7 ?_
          rotate_left
          · intro wz hSz
            skip
            go_simp
            (try with_reducible rfl)
          try simp only [Act.put, List.setIfInBounds_toArray, List.set_cons_zero, List.set_cons_succ]
          refine anyL_take (i := 18) (oi := { dst := some 38, op := Go.Op.binOp Go.BinOp.sub 3 (Go.Operand.tmp 37) (Go.Operand.const (Go.Value.int Go.IntKind.i64 1)) 3, type := 3, pos := "valid.go:54", after := #[{ on := 17, ground := Go.Ground.data }, { on := 14, ground := Go.Ground.guard }], guard := some (14, true) }) (v := ?_) rfl (by decide) (by kernel_rfl) (by kernel_rfl) (by kernel_rfl) (by kernel_rfl) (fun _ _ _ h => h) (Or.inl ⟨by rfl, ?_⟩) S7 ?_
          rotate_left
          · intro wz hSz
            skip
            go_simp
            (try with_reducible rfl)
          try simp only [Act.put, List.setIfInBounds_toArray, List.set_cons_zero, List.set_cons_succ]
          refine anyL_take (i := 19) (oi := { dst := some 39, op := Go.Op.indexAddr 28 (Go.Operand.tmp 36) (Go.Operand.tmp 38), type := 0, pos := "valid.go:54", after := #[{ on := 16, ground := Go.Ground.data }, { on := 18, ground := Go.Ground.data }, { on := 14, ground := Go.Ground.guard }], guard := some (14, true) }) (v := ?_) rfl (by decide) (by kernel_rfl) (by kernel_rfl) (by kernel_rfl) (by kernel_rfl) (fun _ _ _ h => h) (Or.inl ⟨by rfl, ?_⟩) S7 ?_
          rotate_left
          · intro wz hSz
            skip
            go_simp
            (try with_reducible rfl)
          try simp only [Act.put, List.setIfInBounds_toArray, List.set_cons_zero, List.set_cons_succ]
          refine anyL_take (i := 20) (oi := { dst := some 40, op := Go.Op.load 35 (Go.Operand.tmp 39), type := 35, pos := "valid.go:54", after := #[{ on := 19, ground := Go.Ground.data }, { on := 14, ground := Go.Ground.guard }], guard := some (14, true) }) (v := ?_) rfl (by decide) (by kernel_rfl) (by kernel_rfl) (by kernel_rfl) (by kernel_rfl) (fun _ _ _ h => h) (Or.inl ⟨by rfl, ?_⟩) S7 ?_
          rotate_left
          · intro wz hSz
            obtain ⟨z0, z1, z2, z3, z4, z5, z6, z7, z8, z9, z10⟩ := hSz
            go_simp
            (try with_reducible rfl)
          try simp only [Act.put, List.setIfInBounds_toArray, List.set_cons_zero, List.set_cons_succ]
          refine anyL_take (i := 21) (oi := { dst := some 41, op := Go.Op.load 35 (Go.Operand.tmp 11), type := 35, pos := "valid.go:54", after := #[{ on := 14, ground := Go.Ground.guard }], guard := some (14, true) }) (v := ?_) rfl (by decide) (by kernel_rfl) (by kernel_rfl) (by kernel_rfl) (by kernel_rfl) (fun _ _ _ h => h) (Or.inl ⟨by rfl, ?_⟩) S7 ?_
          rotate_left
          · intro wz hSz
            obtain ⟨z0, z1, z2, z3, z4, z5, z6, z7, z8, z9, z10⟩ := hSz
            go_simp
            (try with_reducible rfl)
          try simp only [Act.put, List.setIfInBounds_toArray, List.set_cons_zero, List.set_cons_succ]
          refine anyL_ready (rs := [22]) (by kernel_rfl) (by simp) ?_
          refine AllL.cons (o := { dst := some 42, op := Go.Op.call { callee := Go.Callee.value (Go.Operand.tmp 35), args := #[Go.Operand.tmp 40, Go.Operand.tmp 41], argTypes := #[35, 35] }, type := 3, pos := "valid.go:54", after := #[{ on := 15, ground := Go.Ground.data }, { on := 20, ground := Go.Ground.data }, { on := 21, ground := Go.Ground.data }, { on := 14, ground := Go.Ground.chain }, { on := 14, ground := Go.Ground.guard }], guard := some (14, true) }) rfl (fun K' hK => ?_) AllL.nil
          rw [if_pos (by rfl)]
          go_simp
          go_at_call 18
          refine (cC _).mono ?_
          rintro e w8 ⟨rfl, b8⟩
          have S8 := hSB _ _ b8 S7
          refine hK _ _ S8 ?_
          clear hK K'
          try simp only [Act.put, List.setIfInBounds_toArray, List.set_cons_zero, List.set_cons_succ]
          refine anyL_take (i := 23) (oi := { dst := some 43, op := Go.Op.binOp Go.BinOp.geq 3 (Go.Operand.tmp 42) (Go.Operand.const (Go.Value.int Go.IntKind.i64 0)) 3, type := 4, pos := "valid.go:54", after := #[{ on := 22, ground := Go.Ground.data }, { on := 14, ground := Go.Ground.guard }], guard := some (14, true) }) (v := ?_) rfl (by decide) (by kernel_rfl) (by kernel_rfl) (by kernel_rfl) (by kernel_rfl) (fun _ _ _ h => h) (Or.inl ⟨by rfl, ?_⟩) S8 ?_
          rotate_left
          · intro wz hSz
            skip
            go_simp
            (try with_reducible rfl)
          try simp only [Act.put, List.setIfInBounds_toArray, List.set_cons_zero, List.set_cons_succ]
          refine anyL_take (i := 24) (oi := { dst := some 44, op := Go.Op.pick (Go.Operand.tmp 34) (Go.Operand.tmp 43) (Go.Operand.const (Go.Value.bool false)), type := 4, pos := "valid.go:54", after := #[{ on := 14, ground := Go.Ground.data }, { on := 23, ground := Go.Ground.data }, { on := 11, ground := Go.Ground.guard }], guard := some (11, false) }) (v := ?_) rfl (by decide) (by kernel_rfl) (by kernel_rfl) (by kernel_rfl) (by kernel_rfl) (fun _ _ _ h => h) (Or.inl ⟨by rfl, ?_⟩) S8 ?_
          rotate_left
          · intro wz hSz
            skip
            go_simp
            (try with_reducible rfl)
          try simp only [Act.put, List.setIfInBounds_toArray, List.set_cons_zero, List.set_cons_succ]
          refine anyL_take (i := 25) (oi := { dst := some 45, op := Go.Op.pick (Go.Operand.tmp 31) (Go.Operand.const (Go.Value.bool true)) (Go.Operand.tmp 44), type := 4, pos := "valid.go:54", after := #[{ on := 11, ground := Go.Ground.data }, { on := 24, ground := Go.Ground.data }], guard := none }) (v := ?_) rfl (by decide) (by kernel_rfl) (by kernel_rfl) (by kernel_rfl) (by kernel_rfl) (fun _ _ _ h => h) (Or.inl ⟨by rfl, ?_⟩) S8 ?_
          rotate_left
          · intro wz hSz
            skip
            go_simp
            (try with_reducible rfl)
          try simp only [Act.put, List.setIfInBounds_toArray, List.set_cons_zero, List.set_cons_succ]
          refine anyL_done (by kernel_rfl) ?_ _
          clear S6 S7 S8
          clear S0 hSB
          go_wp2
          go_ret
          exact ⟨mretB HX.out.symm, HBW.out.trans (((b6.trans (b7.mono b6.size)).trans (b8.mono (Nat.le_trans b6.size b7.size))).mono HBW.out.size)⟩
    · obtain rfl : i = l.length := by omega
      have hiz : ¬ (l.length : Int) < (l.length : Int) := by omega
      rw [List.drop_length] at hrel
      have HX := Lib.hid (show R = true from hrel)
      clear hrel hS
      go_wp2
      go_ret
      exact ⟨mretB HX.out.symm, hbr⟩
end Go.Proofs.YtggfblodjanfkaaGreatDoor
end
