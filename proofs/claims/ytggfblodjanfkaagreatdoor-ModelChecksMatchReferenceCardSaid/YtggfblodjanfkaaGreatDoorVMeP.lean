/- Packed from the texts MeP. -/
import Derived.Test.YtggfblodjanfkaaGreatDoorVMeF
import Derived.Test.YtggfblodjanfkaaGreatDoorVMeK
import Derived.Test.YtggfblodjanfkaaGreatDoorVk9
import Derived.Test.YtggfblodjanfkaaGreatDoorVl8
section
namespace Go.Proofs.YtggfblodjanfkaaGreatDoor
open Go.RowKit
theorem fsz_small {f : FeedD} (h : FSm f) : FSz f := ⟨by have := h.id; omega, by have := h.title; omega, by have := h.link; omega, fun s hs => by have := h.path s hs; omega, by have := h.plen; omega, fun e he => by have := h.ents e he; omega, by have := h.elen; omega⟩
set_option maxRecDepth 100000 in
set_option maxHeartbeats 64000000 in
theorem walk_ChecksA (l : List FeedD) (p : Option Addr) (c : Nat) (w : World) (hF : FeedsAt w p l) (hW : ∀ f ∈ l, FWf f) (hl : l.length ≤ 140737488351232) (hT : TabW w) (hx : tlF 0 l = true) :
    Calls Tryz.prog 3 #[.agg #[.slice p l.length c]] w fun e' w' => e' = .returned (.bool true) ∧ Below w.heap.size w w' := by
  obtain ⟨W0, hW0⟩ : ∃ W0, W0 = w.alloc (.cells #[.slice p l.length c] 24) := ⟨_, rfl⟩
  have hB0 : Below w.heap.size w W0 := by rw [hW0]; exact (Below.refl _ _).alloc (Nat.le_refl _) _
  have hS : W0.cell? ⟨w.heap.size, 0, none⟩ = some (.slice p l.length c) := by rw [hW0]; exact cell_of_row _ _ 0 _ _ _ (heap_alloc_new w _)
  have HSB := Lib.hid (fun (u1 u2 : World) (hb : Below u1.heap.size u1 u2) (hss : u1.cell? ⟨w.heap.size, 0, none⟩ = some (.slice p l.length c)) => (show u2.cell? ⟨w.heap.size, 0, none⟩ = some (.slice p l.length c) from mcell hb hss))
  have qcA := Lib.hid (fun wx (hb : Below w.heap.size w wx) => mc_alive wx (TabW_below hT hb))
  have cL := fun wx (hb : Below w.heap.size w wx) => law_TooLargeM l p c wx (hF.below hb) hW hl
  rw [hx] at cL
  have qcL := Lib.hid cL
  have HS := Lib.hid hS
  have HB := Lib.hid hB0
  clear hx cL hS hB0 hT hF hW hl
  go_enter Tryz.func3, Tryz.ntmps3
  go_upto_region 1 with fail
  simp only [← hW0]
  clear hW0
  have f00 := HS.out
  go_wp2_with fail
  refine (qcL.out _ HB.out).mono ?_
  rw [show oneZ true = 1 from rfl]
  rintro e1 w1 ⟨rfl, b1⟩
  replace HS := Lib.hid (HSB.out _ _ b1 HS.out)
  replace HB := Lib.hid (HB.out.trans (b1.mono HB.out.size))
  clear b1
  clear f00
  have f00 := HS.out
  go_wp2_with fail
  refine (qcA.out _ HB.out).mono ?_
  rintro e2 w2 ⟨rfl, b2⟩
  replace HS := Lib.hid (HSB.out _ _ b2 HS.out)
  replace HB := Lib.hid (HB.out.trans (b2.mono HB.out.size))
  clear b2
  clear f00
  have f00 := HS.out
  go_wp2
  go_ret
  exact ⟨rfl, HB.out⟩
set_option maxRecDepth 100000 in
set_option maxHeartbeats 64000000 in
theorem walk_ChecksB (l : List FeedD) (p : Option Addr) (c : Nat) (w : World) (hF : FeedsAt w p l) (hW : ∀ f ∈ l, FWf f) (hl : l.length ≤ 140737488351232) (hT : TabW w) (hx : tlF 0 l = false) :
    Calls Tryz.prog 3 #[.agg #[.slice p l.length c]] w fun e' w' => e' = .returned (.bool true) ∧ Below w.heap.size w w' := by
  obtain ⟨W0, hW0⟩ : ∃ W0, W0 = w.alloc (.cells #[.slice p l.length c] 24) := ⟨_, rfl⟩
  have hB0 : Below w.heap.size w W0 := by rw [hW0]; exact (Below.refl _ _).alloc (Nat.le_refl _) _
  have hS : W0.cell? ⟨w.heap.size, 0, none⟩ = some (.slice p l.length c) := by rw [hW0]; exact cell_of_row _ _ 0 _ _ _ (heap_alloc_new w _)
  have HSB := Lib.hid (fun (u1 u2 : World) (hb : Below u1.heap.size u1 u2) (hss : u1.cell? ⟨w.heap.size, 0, none⟩ = some (.slice p l.length c)) => (show u2.cell? ⟨w.heap.size, 0, none⟩ = some (.slice p l.length c) from mcell hb hss))
  have qcA := Lib.hid (fun wx (hb : Below w.heap.size w wx) => mc_alive wx (TabW_below hT hb))
  have cL := fun wx (hb : Below w.heap.size w wx) => law_TooLargeM l p c wx (hF.below hb) hW hl
  rw [hx] at cL
  have qcL := Lib.hid cL
  have HS := Lib.hid hS
  have HB := Lib.hid hB0
  obtain ⟨hln, hsm⟩ := tlF_small l 0 hx (by omega)
  have hlz : (l.length : Int) ≤ 5000 := by omega
  have hsz : ∀ f ∈ l, FSz f := fun f hf => fsz_small (hsm f hf)
  have k1 := fun wx (hb : Below w.heap.size w wx) => mc_Check l p c wx (hF.below hb) hsz (by omega) (TabW_below hT hb).1
  have k2 := fun wx (hb : Below w.heap.size w wx) => mref_Check l p c wx (hF.below hb) ⟨hsz, by omega⟩
  generalize errZ (okFs [] l) = E at *
  have qk1 := Lib.hid k1
  have qk2 := Lib.hid k2
  have qF := Lib.hid hF
  have qZ := Lib.hid hsz
  have qM := Lib.hid hsm
  have qT := Lib.hid hT
  clear hx cL hS hB0 hT hF hW hl hsz hsm k1 k2
  go_enter Tryz.func3, Tryz.ntmps3
  go_upto_region 1 with fail
  simp only [← hW0]
  clear hW0
  have f00 := HS.out
  go_wp2_with fail
  refine (qcL.out _ HB.out).mono ?_
  rw [show oneZ false = 0 from rfl]
  rintro e1 w1 ⟨rfl, b1⟩
  replace HS := Lib.hid (HSB.out _ _ b1 HS.out)
  replace HB := Lib.hid (HB.out.trans (b1.mono HB.out.size))
  clear b1
  clear f00
  clear qcL
  have f00 := HS.out
  go_wp2
  go_loopw [14] (fun q wr => ∃ i : Nat, i ≤ l.length ∧ q = .int .i64 (i : Int) ∧ Below w1.heap.size w1 wr) (fun q _ => l.length - (RowKit.intOf q).toNat)
  case atStart => exact ⟨0, Nat.zero_le _, rfl, Below.refl _ _⟩
  case round =>
    clear f00
    obtain ⟨i, hi, rfl, hbo⟩ := hrel
    obtain ⟨wo, rfl⟩ : ∃ wo, wo = wr := ⟨_, rfl⟩
    have HBo := Lib.hid (HB.out.trans (hbo.mono HB.out.size))
    by_cases hlt : i < l.length
    · have hiz : (i : Int) < (l.length : Int) := by omega
      obtain ⟨a, p1, c1, q1, d1, rfl, ⟨a0, a1, a2, a3, a4, a5⟩, hp1, he1⟩ := qF.out.below HBo.out i hlt
      obtain ⟨f, hf⟩ : ∃ f, l[i] = f := ⟨_, rfl⟩
      have hfz := qZ.out f (by rw [← hf]; exact List.getElem_mem _)
      have hfm := qM.out f (by rw [← hf]; exact List.getElem_mem _)
      rw [hf] at a0 a1 a2 a3 a4 a5 hp1 he1
      obtain ⟨aa, haa⟩ : ∃ aa, a.add (i * 6) = aa := ⟨_, rfl⟩
      rw [haa] at a0 a1 a2 a3 a4 a5
      simp only [Addr.add, Nat.reduceEqDiff, ↓reduceIte] at a1 a2 a3 a4 a5
      obtain ⟨W5, hW5⟩ : ∃ W5, W5 = wo.alloc (.cells #[.slice p1 f.path.length c1, .string f.id, .string f.title, .string f.link, .int .i64 f.upd, .slice q1 f.ents.length d1] 30) := ⟨_, rfl⟩
      have hb5 : Below wo.heap.size wo W5 := by rw [hW5]; exact (Below.refl _ _).alloc (Nat.le_refl _) _
      have hX5 : FBox W5 wo.heap.size f p1 c1 q1 d1 := by rw [hW5]; exact FBox.new wo f p1 c1 q1 d1
      have HB5 := Lib.hid (HBo.out.trans (hb5.mono HBo.out.size))
      have HO5 := Lib.hid (hbo.trans (hb5.mono hbo.size))
      have hfel := hfm.elen
      have hfe : (f.ents.length : Int) ≤ 5000 := by omega
      have k1 := fun wx (hb : Below W5.heap.size W5 wx) => mc_CheckFeed f _ wx ⟨p1, c1, q1, d1, rfl, (hp1.below hb5).below hb, (he1.below hb5).below hb⟩ hfz (mu_below (mu_below qT.out.1 HB5.out) hb)
      have k2 := fun wx (hb : Below W5.heap.size W5 wx) => mref_CheckFeed f _ wx ⟨p1, c1, q1, d1, rfl, (hp1.below hb5).below hb, (he1.below hb5).below hb⟩ hfz
      generalize errZ (okF f) = G at *
      have hGG : (G == G) = true := by simp
      have qj1 := Lib.hid k1
      have qj2 := Lib.hid k2
      have qz := Lib.hid hfz
      have qE := Lib.hid (he1.below hb5)
      clear hf hbo hb5 k1 k2 hp1 he1 hfz hfm hfel
      go_upto_region 6 with fail
      simp only [← hW5]
      clear hW5 a0 a1 a2 a3 a4 a5 HBo
      generalize wo.heap.size = bx at *
      have HBo := Lib.hid (Below.refl W5.heap.size W5)
      have HX := Lib.hid (show FBox W5 bx f p1 c1 q1 d1 ∧ True from ⟨hX5, trivial⟩)
      have HSX := Lib.hid (fun (u1 u2 : World) (hb : Below u1.heap.size u1 u2) (hss : FBox u1 bx f p1 c1 q1 d1 ∧ True) => (show FBox u2 bx f p1 c1 q1 d1 ∧ True from ⟨hss.1.below hb, trivial⟩))
      clear hX5
      go_wp2
      have SD : FBox W5.drew bx f p1 c1 q1 d1 ∧ True := HX.out
      have HD := Lib.hid (show Below W5.heap.size W5 W5.drew from HBo.out.drew)
      refine wp_region_late (S := fun w' => FBox w' bx f p1 c1 q1 d1 ∧ True) (D := []) (by kernel_rfl) ?_
      refine anyL_take (i := 0) (oi := { dst := some 18, op := Go.Op.load 30 (Go.Operand.tmp 4), type := 30, pos := "law.go:46", after := #[], guard := none }) (v := ?_) rfl (by decide) (by kernel_rfl) (by kernel_rfl) (by kernel_rfl) (by kernel_rfl) (fun _ _ _ h => h) (Or.inl ⟨by rfl, ?_⟩) SD ?_
      rotate_left
      · intro wz hSz
        obtain ⟨⟨z0, z1, z2, z3, z4, z5⟩, -⟩ := hSz
        go_simp
        (try with_reducible rfl)
      try simp only [Act.put, List.setIfInBounds_toArray, List.set_cons_zero, List.set_cons_succ]
      refine anyL_take (i := 2) (oi := { dst := some 20, op := Go.Op.load 30 (Go.Operand.tmp 4), type := 30, pos := "law.go:46", after := #[], guard := none }) (v := ?_) rfl (by decide) (by kernel_rfl) (by kernel_rfl) (by kernel_rfl) (by kernel_rfl) (fun _ _ _ h => h) (Or.inl ⟨by rfl, ?_⟩) SD ?_
      rotate_left
      · intro wz hSz
        obtain ⟨⟨z0, z1, z2, z3, z4, z5⟩, -⟩ := hSz
        go_simp
        (try with_reducible rfl)
      try simp only [Act.put, List.setIfInBounds_toArray, List.set_cons_zero, List.set_cons_succ]
      refine anyL_ready (rs := [1]) (by kernel_rfl) (by simp) ?_
      refine AllL.cons (o := { dst := some 19, op := Go.Op.call { callee := Go.Callee.value (Go.Operand.func 7), args := #[Go.Operand.tmp 18], argTypes := #[30] }, type := 31, pos := "law.go:46", after := #[{ on := 0, ground := Go.Ground.data }], guard := none }) rfl (fun K' hK => ?_) AllL.nil
      rw [if_pos (by rfl)]
      go_simp
      go_at_call 7
      refine (qj1.out _ HD.out).mono ?_
      rintro e21 w21 ⟨rfl, b21⟩
      have S21 := HSX.out _ _ b21 SD
      have HB21 := Lib.hid (HD.out.trans (b21.mono HD.out.size))
      refine hK _ _ S21 ?_
      clear hK K' b21 SD
      try simp only [Act.put, List.setIfInBounds_toArray, List.set_cons_zero, List.set_cons_succ]
      refine anyL_ready (rs := [3]) (by kernel_rfl) (by simp) ?_
      refine AllL.cons (o := { dst := some 21, op := Go.Op.call { callee := Go.Callee.value (Go.Operand.func 8), args := #[Go.Operand.tmp 20], argTypes := #[30] }, type := 3, pos := "law.go:46", after := #[{ on := 2, ground := Go.Ground.data }, { on := 1, ground := Go.Ground.chain }], guard := none }) rfl (fun K' hK => ?_) AllL.nil
      rw [if_pos (by rfl)]
      go_simp
      go_at_call 8
      refine (qj2.out _ HB21.out).mono ?_
      rintro e22 w22 ⟨rfl, b22⟩
      have S22 := HSX.out _ _ b22 S21
      have HB22 := Lib.hid (HB21.out.trans (b22.mono HB21.out.size))
      refine hK _ _ S22 ?_
      clear hK K' b22 S21
      try simp only [Act.put, List.setIfInBounds_toArray, List.set_cons_zero, List.set_cons_succ]
      refine anyL_take (i := 4) (oi := { dst := some 22, op := Go.Op.binOp Go.BinOp.neq 3 (Go.Operand.tmp 19) (Go.Operand.tmp 21) 3, type := 4, pos := "law.go:46", after := #[{ on := 1, ground := Go.Ground.data }, { on := 3, ground := Go.Ground.data }], guard := none }) (v := ?_) rfl (by decide) (by kernel_rfl) (by kernel_rfl) (by kernel_rfl) (by kernel_rfl) (fun _ _ _ h => h) (Or.inl ⟨by rfl, ?_⟩) S22 ?_
      rotate_left
      · intro wz hSz
        skip
        go_simp
        (try with_reducible rfl)
      try simp only [Act.put, List.setIfInBounds_toArray, List.set_cons_zero, List.set_cons_succ]
      refine anyL_done (by kernel_rfl) ?_ _
      have HS6 := Lib.hid S22
      have H6 := HB22
      clear S22 HB22 qj1 qj2 HX HBo hGG
      obtain ⟨⟨e0, e1, e2, e3, e4, e5⟩, -⟩ := id HS6.out
      go_wp2
      go_loopw [26] (fun q wr => ∃ j : Nat, j ≤ f.ents.length ∧ q = .int .i64 (j : Int) ∧ Below w22.heap.size w22 wr) (fun q _ => f.ents.length - (RowKit.intOf q).toNat)
      case atStart => exact ⟨0, Nat.zero_le _, rfl, Below.refl _ _⟩
      case round =>
        clear e0 e1 e2 e3 e4 e5
        obtain ⟨j, hj, rfl, hbi⟩ := hrel
        have HWi := Lib.hid (H6.out.trans (hbi.mono H6.out.size))
        by_cases hjl : j < f.ents.length
        · have hjz : (j : Int) < (f.ents.length : Int) := by omega
          obtain ⟨b, rfl, b0, b1, b2, b3, b4⟩ := qE.out.below HWi.out j hjl
          obtain ⟨y, hy⟩ : ∃ y, f.ents[j] = y := ⟨_, rfl⟩
          have hyz := qz.out.ents y (by rw [← hy]; exact List.getElem_mem _)
          rw [hy] at b0 b1 b2 b3 b4
          obtain ⟨bb, hbb⟩ : ∃ bb, b.add (j * 5) = bb := ⟨_, rfl⟩
          rw [hbb] at b0 b1 b2 b3 b4
          simp only [Addr.add, Nat.reduceEqDiff, ↓reduceIte] at b1 b2 b3 b4
          obtain ⟨W7, hW7⟩ : ∃ W7, W7 = wr.alloc (.cells #[.string y.id, .string y.title, .string y.link, .string y.content, .int .i64 y.upd] 35) := ⟨_, rfl⟩
          have hb7 : Below wr.heap.size wr W7 := by rw [hW7]; exact (Below.refl _ _).alloc (Nat.le_refl _) _
          have hY7 : EBox W7 wr.heap.size y := by rw [hW7]; exact EBox.new wr y
          have HB7 := Lib.hid (HB5.out.trans ((HWi.out.trans (hb7.mono HWi.out.size)).mono HB5.out.size))
          have hbW := hbi.trans (hb7.mono hbi.size)
          have k1 := fun wx (hb : Below W7.heap.size W7 wx) => mc_CheckEntry y wx hyz (mu_below (mu_below qT.out.1 HB7.out) hb)
          have k2 := fun wx => mref_CheckEntry y wx hyz.1 hyz.2.1 hyz.2.2.1 hyz.2.2.2
          unfold EntV at k1 k2
          generalize errZ (okE y) = G2 at *
          have hGG : (G2 == G2) = true := by simp
          have HBW := Lib.hid hbW
          have qj1 := Lib.hid k1
          have qj2 := Lib.hid k2
          clear hy hbi hb7 hbW k1 k2 hyz
          go_upto_region 11 with fail
          simp only [← hW7]
          clear hW7 b0 b1 b2 b3 b4
          generalize wr.heap.size = ny at *
          have HY := Lib.hid (show EBox W7 ny y ∧ True from ⟨hY7, trivial⟩)
          have HSY := Lib.hid (fun (u1 u2 : World) (hb : Below u1.heap.size u1 u2) (hss : EBox u1 ny y ∧ True) => (show EBox u2 ny y ∧ True from ⟨hss.1.below hb, trivial⟩))
          clear hY7
          go_wp2
          have SD : EBox W7.drew ny y ∧ True := HY.out
          have HD := Lib.hid (show Below W7.heap.size W7 W7.drew from (Below.refl _ _).drew)
          refine wp_region_late (S := fun w' => EBox w' ny y ∧ True) (D := []) (by kernel_rfl) ?_
          refine anyL_take (i := 0) (oi := { dst := some 30, op := Go.Op.load 35 (Go.Operand.tmp 6), type := 35, pos := "law.go:50", after := #[], guard := none }) (v := ?_) rfl (by decide) (by kernel_rfl) (by kernel_rfl) (by kernel_rfl) (by kernel_rfl) (fun _ _ _ h => h) (Or.inl ⟨by rfl, ?_⟩) SD ?_
          rotate_left
          · intro wz hSz
            obtain ⟨⟨z0, z1, z2, z3, z4⟩, -⟩ := hSz
            go_simp
            (try with_reducible rfl)
          try simp only [Act.put, List.setIfInBounds_toArray, List.set_cons_zero, List.set_cons_succ]
          refine anyL_take (i := 2) (oi := { dst := some 32, op := Go.Op.load 35 (Go.Operand.tmp 6), type := 35, pos := "law.go:50", after := #[], guard := none }) (v := ?_) rfl (by decide) (by kernel_rfl) (by kernel_rfl) (by kernel_rfl) (by kernel_rfl) (fun _ _ _ h => h) (Or.inl ⟨by rfl, ?_⟩) SD ?_
          rotate_left
          · intro wz hSz
            obtain ⟨⟨z0, z1, z2, z3, z4⟩, -⟩ := hSz
            go_simp
            (try with_reducible rfl)
          try simp only [Act.put, List.setIfInBounds_toArray, List.set_cons_zero, List.set_cons_succ]
          refine anyL_ready (rs := [1]) (by kernel_rfl) (by simp) ?_
          refine AllL.cons (o := { dst := some 31, op := Go.Op.call { callee := Go.Callee.value (Go.Operand.func 9), args := #[Go.Operand.tmp 30], argTypes := #[35] }, type := 31, pos := "law.go:50", after := #[{ on := 0, ground := Go.Ground.data }], guard := none }) rfl (fun K' hK => ?_) AllL.nil
          rw [if_pos (by rfl)]
          go_simp
          go_at_call 9
          refine (qj1.out _ HD.out).mono ?_
          rintro e61 w61 ⟨rfl, b61⟩
          have S61 := HSY.out _ _ b61 SD
          have HB61 := Lib.hid (HD.out.trans (b61.mono HD.out.size))
          refine hK _ _ S61 ?_
          clear hK K' b61 SD
          try simp only [Act.put, List.setIfInBounds_toArray, List.set_cons_zero, List.set_cons_succ]
          refine anyL_ready (rs := [3]) (by kernel_rfl) (by simp) ?_
          refine AllL.cons (o := { dst := some 33, op := Go.Op.call { callee := Go.Callee.value (Go.Operand.func 10), args := #[Go.Operand.tmp 32], argTypes := #[35] }, type := 3, pos := "law.go:50", after := #[{ on := 2, ground := Go.Ground.data }, { on := 1, ground := Go.Ground.chain }], guard := none }) rfl (fun K' hK => ?_) AllL.nil
          rw [if_pos (by rfl)]
          go_simp
          go_at_call 10
          refine (qj2.out _).mono ?_
          rintro e62 w62 ⟨rfl, b62⟩
          have S62 := HSY.out _ _ b62 S61
          have HB62 := Lib.hid (HB61.out.trans (b62.mono HB61.out.size))
          refine hK _ _ S62 ?_
          clear hK K' b62 S61
          try simp only [Act.put, List.setIfInBounds_toArray, List.set_cons_zero, List.set_cons_succ]
          refine anyL_take (i := 4) (oi := { dst := some 34, op := Go.Op.binOp Go.BinOp.neq 3 (Go.Operand.tmp 31) (Go.Operand.tmp 33) 3, type := 4, pos := "law.go:50", after := #[{ on := 1, ground := Go.Ground.data }, { on := 3, ground := Go.Ground.data }], guard := none }) (v := ?_) rfl (by decide) (by kernel_rfl) (by kernel_rfl) (by kernel_rfl) (by kernel_rfl) (fun _ _ _ h => h) (Or.inl ⟨by rfl, ?_⟩) S62 ?_
          rotate_left
          · intro wz hSz
            skip
            go_simp
            (try with_reducible rfl)
          try simp only [Act.put, List.setIfInBounds_toArray, List.set_cons_zero, List.set_cons_succ]
          refine anyL_done (by kernel_rfl) ?_ _
          clear S62
          go_wp2
          go_roundw
          case rel => exact ⟨j + 1, by omega, by go_num, HBW.out.trans (HB62.out.mono HBW.out.size)⟩
          case measure => simp [RowKit.intOf]; omega
        · obtain rfl : j = f.ents.length := by omega
          have hjz : ¬ (f.ents.length : Int) < (f.ents.length : Int) := by omega
          clear hbi
          go_wp2
          go_roundw
          case rel => exact ⟨i + 1, by omega, by go_num, HO5.out.trans (HWi.out.mono HO5.out.size)⟩
          case measure => simp [RowKit.intOf]; omega
    · obtain rfl : i = l.length := by omega
      have hiz : ¬ (l.length : Int) < (l.length : Int) := by omega
      have HS3 := Lib.hid (HSB.out _ _ hbo HS.out)
      have hEE : (E == E) = true := by simp
      clear hbo HS HB
      go_wp2
      have SD : wo.drew.cell? ⟨w.heap.size, 0, none⟩ = some (.slice p l.length c) := HS3.out
      have HD := Lib.hid (show Below w.heap.size w wo.drew from HBo.out.drew)
      clear HS3 HBo
      refine wp_region_late (S := fun w' => w'.cell? ⟨w.heap.size, 0, none⟩ = some (.slice p l.length c)) (D := []) (by kernel_rfl) ?_
      refine anyL_ready (rs := [0]) (by kernel_rfl) (by simp) ?_
      refine AllL.cons (o := { dst := some 37, op := Go.Op.call { callee := Go.Callee.value (Go.Operand.func 6), args := #[], argTypes := #[] }, type := 4, pos := "law.go:55", after := #[], guard := none }) rfl (fun K' hK => ?_) AllL.nil
      rw [if_pos (by rfl)]
      go_simp
      go_at_call 6
      refine (qcA.out _ HD.out).mono ?_
      rintro e91 w91 ⟨rfl, b91⟩
      have S91 := HSB.out _ _ b91 SD
      have HB91 := Lib.hid (HD.out.trans (b91.mono HD.out.size))
      refine hK _ _ S91 ?_
      clear hK K' b91 SD
      try simp only [Act.put, List.setIfInBounds_toArray, List.set_cons_zero, List.set_cons_succ]
      refine anyL_take (i := 1) (oi := { dst := some 38, op := Go.Op.move (Go.Operand.tmp 37), type := 4, pos := "law.go:55", after := #[{ on := 0, ground := Go.Ground.data }, { on := 0, ground := Go.Ground.chain }], guard := none }) (v := ?_) rfl (by decide) (by kernel_rfl) (by kernel_rfl) (by kernel_rfl) (by kernel_rfl) (fun _ _ _ h => h) (Or.inl ⟨by rfl, ?_⟩) S91 ?_
      rotate_left
      · intro wz hSz
        skip
        go_simp
        (try with_reducible rfl)
      try simp only [Act.put, List.setIfInBounds_toArray, List.set_cons_zero, List.set_cons_succ]
      refine anyL_take (i := 2) (oi := { dst := some 39, op := Go.Op.load 24 (Go.Operand.tmp 1), type := 24, pos := "law.go:55", after := #[{ on := 1, ground := Go.Ground.guard }], guard := some (1, true) }) (v := ?_) rfl (by decide) (by kernel_rfl) (by kernel_rfl) (by kernel_rfl) (by kernel_rfl) (fun _ _ _ h => h) (Or.inl ⟨by rfl, ?_⟩) S91 ?_
      rotate_left
      · intro wz hSz
        have z0 := hSz
        go_simp
        (try with_reducible rfl)
      try simp only [Act.put, List.setIfInBounds_toArray, List.set_cons_zero, List.set_cons_succ]
      refine anyL_take (i := 4) (oi := { dst := some 41, op := Go.Op.load 24 (Go.Operand.tmp 1), type := 24, pos := "law.go:55", after := #[{ on := 1, ground := Go.Ground.guard }], guard := some (1, true) }) (v := ?_) rfl (by decide) (by kernel_rfl) (by kernel_rfl) (by kernel_rfl) (by kernel_rfl) (fun _ _ _ h => h) (Or.inl ⟨by rfl, ?_⟩) S91 ?_
      rotate_left
      · intro wz hSz
        have z0 := hSz
        go_simp
        (try with_reducible rfl)
      try simp only [Act.put, List.setIfInBounds_toArray, List.set_cons_zero, List.set_cons_succ]
      refine anyL_ready (rs := [3]) (by kernel_rfl) (by simp) ?_
      refine AllL.cons (o := { dst := some 40, op := Go.Op.call { callee := Go.Callee.value (Go.Operand.func 11), args := #[Go.Operand.tmp 39], argTypes := #[24] }, type := 31, pos := "law.go:55", after := #[{ on := 2, ground := Go.Ground.data }, { on := 1, ground := Go.Ground.chain }, { on := 1, ground := Go.Ground.guard }], guard := some (1, true) }) rfl (fun K' hK => ?_) AllL.nil
      rw [if_pos (by rfl)]
      go_simp
      go_at_call 11
      refine (qk1.out _ HB91.out).mono ?_
      rintro e92 w92 ⟨rfl, b92⟩
      have S92 := HSB.out _ _ b92 S91
      have HB92 := Lib.hid (HB91.out.trans (b92.mono HB91.out.size))
      refine hK _ _ S92 ?_
      clear hK K' b92 S91
      try simp only [Act.put, List.setIfInBounds_toArray, List.set_cons_zero, List.set_cons_succ]
      refine anyL_ready (rs := [5]) (by kernel_rfl) (by simp) ?_
      refine AllL.cons (o := { dst := some 42, op := Go.Op.call { callee := Go.Callee.value (Go.Operand.func 12), args := #[Go.Operand.tmp 41], argTypes := #[24] }, type := 3, pos := "law.go:55", after := #[{ on := 4, ground := Go.Ground.data }, { on := 3, ground := Go.Ground.chain }, { on := 1, ground := Go.Ground.guard }], guard := some (1, true) }) rfl (fun K' hK => ?_) AllL.nil
      rw [if_pos (by rfl)]
      go_simp
      go_at_call 12
      refine (qk2.out _ HB92.out).mono ?_
      rintro e93 w93 ⟨rfl, b93⟩
      have S93 := HSB.out _ _ b93 S92
      have HB93 := Lib.hid (HB92.out.trans (b93.mono HB92.out.size))
      refine hK _ _ S93 ?_
      clear hK K' b93 S92
      try simp only [Act.put, List.setIfInBounds_toArray, List.set_cons_zero, List.set_cons_succ]
      refine anyL_take (i := 6) (oi := { dst := some 43, op := Go.Op.binOp Go.BinOp.eql 3 (Go.Operand.tmp 40) (Go.Operand.tmp 42) 3, type := 4, pos := "law.go:55", after := #[{ on := 3, ground := Go.Ground.data }, { on := 5, ground := Go.Ground.data }, { on := 1, ground := Go.Ground.guard }], guard := some (1, true) }) (v := ?_) rfl (by decide) (by kernel_rfl) (by kernel_rfl) (by kernel_rfl) (by kernel_rfl) (fun _ _ _ h => h) (Or.inl ⟨by rfl, ?_⟩) S93 ?_
      rotate_left
      · intro wz hSz
        skip
        go_simp
        (try with_reducible rfl)
      try simp only [Act.put, List.setIfInBounds_toArray, List.set_cons_zero, List.set_cons_succ]
      refine anyL_take (i := 7) (oi := { dst := some 44, op := Go.Op.pick (Go.Operand.tmp 38) (Go.Operand.tmp 43) (Go.Operand.const (Go.Value.bool false)), type := 4, pos := "law.go:55", after := #[{ on := 1, ground := Go.Ground.data }, { on := 6, ground := Go.Ground.data }], guard := none }) (v := ?_) rfl (by decide) (by kernel_rfl) (by kernel_rfl) (by kernel_rfl) (by kernel_rfl) (fun _ _ _ h => h) (Or.inl ⟨by rfl, ?_⟩) S93 ?_
      rotate_left
      · intro wz hSz
        skip
        go_simp
        (try with_reducible rfl)
      try simp only [Act.put, List.setIfInBounds_toArray, List.set_cons_zero, List.set_cons_succ]
      refine anyL_take (i := 8) (oi := { dst := some 2, op := Go.Op.assign (Go.Operand.tmp 44), type := 4, pos := "law.go:55", after := #[{ on := 7, ground := Go.Ground.data }, { on := 5, ground := Go.Ground.chain }, { on := 0, ground := Go.Ground.phase }, { on := 1, ground := Go.Ground.phase }, { on := 2, ground := Go.Ground.phase }, { on := 3, ground := Go.Ground.phase }, { on := 4, ground := Go.Ground.phase }, { on := 5, ground := Go.Ground.phase }, { on := 6, ground := Go.Ground.phase }, { on := 7, ground := Go.Ground.phase }], guard := none }) (v := ?_) rfl (by decide) (by kernel_rfl) (by kernel_rfl) (by kernel_rfl) (by kernel_rfl) (fun _ _ _ h => h) (Or.inl ⟨by rfl, ?_⟩) S93 ?_
      rotate_left
      · intro wz hSz
        skip
        go_simp
        (try with_reducible rfl)
      try simp only [Act.put, List.setIfInBounds_toArray, List.set_cons_zero, List.set_cons_succ]
      refine anyL_done (by kernel_rfl) ?_ _
      clear S93
      go_wp2
      go_ret
      exact ⟨by first | rfl | simp, HB93.out⟩
theorem walk_Checks (l : List FeedD) (p : Option Addr) (c : Nat) (w : World) (hF : FeedsAt w p l) (hW : ∀ f ∈ l, FWf f) (hl : l.length ≤ 140737488351232) (hT : TabW w):
    Calls Tryz.prog 3 #[.agg #[.slice p l.length c]] w fun e' w' => e' = .returned (.bool true) ∧ Below w.heap.size w w' := by
  rcases hx : tlF 0 l with _ | _
  · exact walk_ChecksB l p c w hF hW hl hT hx
  · exact walk_ChecksA l p c w hF hW hl hT hx
end Go.Proofs.YtggfblodjanfkaaGreatDoor
end
