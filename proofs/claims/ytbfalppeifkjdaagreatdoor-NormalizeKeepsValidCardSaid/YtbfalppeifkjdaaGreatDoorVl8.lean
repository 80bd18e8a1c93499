/- Packed from the texts MdL MdR. -/
import Derived.Test.YtbfalppeifkjdaaGreatDoorVLate
import Derived.Test.YtbfalppeifkjdaaGreatDoorVk6
section
namespace Go.Proofs.YtbfalppeifkjdaaGreatDoor
open Go.RowKit
set_option maxRecDepth 100000 in
set_option maxHeartbeats 16000000 in
theorem mref_CheckFeed (f : FeedD) (v : Value) (w : World) (hf : FeedIs w f v) (hz : FSz f) : Calls Tryz.prog 18 #[v] w fun e w' => e = .returned (.int .i64 (errZ (okF f))) ∧ Below w.heap.size w w' := by
  obtain ⟨p1, c1, q1, d1, rfl, hp1, he1⟩ := hf
  obtain ⟨R, hR⟩ : ∃ R, errZ (okF f) = R := ⟨_, rfl⟩
  rw [hR]
  have cV1 := fun wx => ref_Valid f.id wx hz.id
  have cV2 := fun wx => ref_Valid f.title wx hz.title
  have cV3 := fun wx => ref_Valid f.link wx hz.link
  have cT := fun wx => mref_inTime f.upd wx
  unfold okF at hR
  obtain ⟨z, hzz⟩ : ∃ z, decide (f.id.size = 0) = z := ⟨_, rfl⟩
  rw [hzz] at hR
  generalize validB f.id = v1 at *
  generalize validB f.title = v2 at *
  generalize validB f.link = v3 at *
  generalize inTB f.upd = v5 at *
  have HR := Lib.hid hR
  have HZ := Lib.hid hzz
  have HSZ := Lib.hid hz
  have hpl : (f.path.length : Int) ≤ 100000000 := by have := hz.plen; omega
  have hel : (f.ents.length : Int) ≤ 100000000 := by have := hz.elen; omega
  obtain ⟨W1, hW1⟩ : ∃ W1, W1 = w.alloc (.cells #[.slice p1 f.path.length c1, .string f.id, .string f.title, .string f.link, .int .i64 f.upd, .slice q1 f.ents.length d1] 35) := ⟨_, rfl⟩
  have hX : FBox W1 w.heap.size f p1 c1 q1 d1 := by rw [hW1]; exact FBox.new w f p1 c1 q1 d1
  have hB : Below w.heap.size w W1 := by rw [hW1]; exact (Below.refl _ _).alloc (Nat.le_refl _) _
  have HX := Lib.hid hX
  have HB := Lib.hid hB
  have HP := Lib.hid (hp1.below hB)
  have HE := Lib.hid (he1.below hB)
  obtain ⟨e0, e1, e2, e3, e4, e5⟩ := hX
  clear hB hR hzz hz hp1 he1
  by_cases h64 : 64 < f.path.length
  · have h64z : (64 : Int) < (f.path.length : Int) := by omega
    go_enter Tryz.func18, Tryz.ntmps18
    go_upto_region 1 with fail
    simp only [← hW1]
    clear hW1
    go_wp2
    go_ret
    exact ⟨mretI (by rw [← HR.out, decide_eq_false (by omega)]; rfl), HB.out⟩
  have h64z : ¬ (64 : Int) < (f.path.length : Int) := by omega
  go_enter Tryz.func18, Tryz.ntmps18
  go_upto_region 1 with fail
  simp only [← hW1]
  clear hW1
  go_wp2_with fail
  refine (cV1 _).mono ?_
  rintro e w2 ⟨rfl, b⟩
  replace HX := Lib.hid (HX.out.below b)
  replace HP := Lib.hid (HP.out.below b)
  replace HE := Lib.hid (HE.out.below b)
  replace HB := Lib.hid (HB.out.trans (b.mono HB.out.size))
  clear e0 e1 e2 e3 e4 e5 b
  obtain ⟨e0, e1, e2, e3, e4, e5⟩ := id HX.out
  cases v1
  · go_wp2
    go_ret
    exact ⟨mretI (by rw [← HR.out]; simp [errZ]), HB.out⟩
  go_wp2_with fail
  refine (cV2 _).mono ?_
  rintro e w3 ⟨rfl, b⟩
  replace HX := Lib.hid (HX.out.below b)
  replace HP := Lib.hid (HP.out.below b)
  replace HE := Lib.hid (HE.out.below b)
  replace HB := Lib.hid (HB.out.trans (b.mono HB.out.size))
  clear e0 e1 e2 e3 e4 e5 b
  obtain ⟨e0, e1, e2, e3, e4, e5⟩ := id HX.out
  cases v2
  · go_wp2
    go_ret
    exact ⟨mretI (by rw [← HR.out]; simp [errZ]), HB.out⟩
  go_wp2_with fail
  refine (cV3 _).mono ?_
  rintro e w4 ⟨rfl, b⟩
  replace HX := Lib.hid (HX.out.below b)
  replace HP := Lib.hid (HP.out.below b)
  replace HE := Lib.hid (HE.out.below b)
  replace HB := Lib.hid (HB.out.trans (b.mono HB.out.size))
  clear e0 e1 e2 e3 e4 e5 b
  obtain ⟨e0, e1, e2, e3, e4, e5⟩ := id HX.out
  cases v3
  · go_wp2
    go_ret
    exact ⟨mretI (by rw [← HR.out]; simp [errZ]), HB.out⟩
  cases z
  case true =>
    obtain ⟨s1, s2, s3⟩ := mstr_none (of_decide_eq_true HZ.out)
    go_wp2
    go_ret
    exact ⟨mretI (by rw [← HR.out]; simp [errZ]), HB.out⟩
  obtain ⟨s1, s2, s3⟩ := mstr_some (of_decide_eq_false HZ.out)
  go_wp2_with fail
  refine (cT _).mono ?_
  rintro e w5 ⟨rfl, rfl⟩
  clear s1 s2 s3
  cases v5
  · go_wp2
    go_ret
    exact ⟨mretI (by rw [← HR.out]; simp [errZ]), HB.out⟩
  have HRP := Lib.hid (show R = errZ ((f.path.drop 0).all okName && okEs [] f.ents) by rw [← HR.out, decide_eq_true (show f.path.length ≤ 64 by omega)]; rfl)
  clear HR HZ cV1 cV2 cV3 cT
  go_wp2
  go_loopw [3] (fun zz wr => ∃ i : Nat, i ≤ f.path.length ∧ zz = .int .i64 (i : Int) ∧ R = errZ ((f.path.drop i).all okName && okEs [] f.ents) ∧ Below w4.heap.size w4 wr) (fun zz _ => f.path.length - (RowKit.intOf zz).toNat)
  case atStart => exact ⟨0, Nat.zero_le _, rfl, HRP.out, Below.refl _ _⟩
  case round =>
    clear HRP
    obtain ⟨i, hi, rfl, hR, hb⟩ := hrel
    have HBB := Lib.hid hb
    clear e0 e1 e2 e3 e4 e5
    obtain ⟨e0, e1, e2, e3, e4, e5⟩ := HX.out.below hb
    by_cases hlt : i < f.path.length
    · have hiz : (i : Int) < (f.path.length : Int) := by omega
      obtain ⟨a, rfl, ca⟩ := HP.out.below hb i hlt
      rw [List.drop_eq_getElem_cons hlt, List.all_cons] at hR
      obtain ⟨x, hx⟩ : ∃ x, f.path[i] = x := ⟨_, rfl⟩
      have hxs := HSZ.out.path x (by rw [← hx]; exact List.getElem_mem _)
      rw [hx] at ca hR
      obtain ⟨aa, haa⟩ : ∃ aa, a.add i = aa := ⟨_, rfl⟩
      rw [haa] at ca
      have cV := fun wx => ref_Valid x wx hxs
      unfold okName at hR
      clear hx hb hxs
      by_cases hx0 : x.size = 0
      · obtain ⟨s1, s2, s3⟩ := mstr_none hx0
        rw [decide_eq_true hx0] at hR
        have HRR := Lib.hid hR
        clear hR hx0
        go_wp2
        go_ret
        exact ⟨mretI HRR.out.symm, HB.out.trans (HBB.out.mono HB.out.size)⟩
      · obtain ⟨s1, s2, s3⟩ := mstr_some hx0
        rw [decide_eq_false hx0] at hR
        generalize validB x = vx at *
        have HRR := Lib.hid hR
        clear hR hx0
        go_wp2_with fail
        refine (cV _).mono ?_
        rintro e w6 ⟨rfl, b6⟩
        have HB6 := Lib.hid (HBB.out.trans (b6.mono HBB.out.size))
        clear b6
        cases vx
        · go_wp2
          go_ret
          exact ⟨mretI HRR.out.symm, HB.out.trans (HB6.out.mono HB.out.size)⟩
        · go_wp2
          go_roundw
          case rel => exact ⟨i + 1, by omega, by go_num, HRR.out, HB6.out⟩
          case measure => simp [RowKit.intOf]; omega
    · obtain rfl : i = f.path.length := by omega
      have hiz : ¬ (f.path.length : Int) < (f.path.length : Int) := by omega
      rw [List.drop_length, List.all_nil, Bool.true_and] at hR
      obtain ⟨wo, rfl⟩ : ∃ wo, wo = wr := ⟨_, rfl⟩
      have HRE := Lib.hid (show R = errZ (okEs (f.ents.take 0) (f.ents.drop 0)) from hR)
      have HX5 := Lib.hid (HX.out.below hb)
      have HE5 := Lib.hid (HE.out.below hb)
      have HB5 := Lib.hid (HB.out.trans (hb.mono HB.out.size))
      clear hR hb HX HE HP HB HBB
      go_wp2
      go_loopw [4] (fun zz wr => ∃ i : Nat, i ≤ f.ents.length ∧ zz = .int .i64 (i : Int) ∧ R = errZ (okEs (f.ents.take i) (f.ents.drop i)) ∧ Below wo.heap.size wo wr) (fun zz _ => f.ents.length - (RowKit.intOf zz).toNat)
      case atStart => exact ⟨0, Nat.zero_le _, rfl, HRE.out, Below.refl _ _⟩
      case round =>
        clear HRE e0 e1 e2 e3 e4 e5
        obtain ⟨i, hi, rfl, hR, hb⟩ := hrel
        obtain ⟨wp, rfl⟩ : ∃ wp, wp = wr := ⟨_, rfl⟩
        obtain ⟨-, -, -, -, -, e5⟩ := HX5.out.below hb
        by_cases hlt : i < f.ents.length
        · have hiz : (i : Int) < (f.ents.length : Int) := by omega
          obtain ⟨a, rfl, a0, a1, a2, a3, a4⟩ := HE5.out.below hb i hlt
          rw [okEs_at f.ents i hlt] at hR
          obtain ⟨x, hx⟩ : ∃ x, f.ents[i] = x := ⟨_, rfl⟩
          have hxs := HSZ.out.ents x (by rw [← hx]; exact List.getElem_mem _)
          rw [hx] at a0 a1 a2 a3 a4 hR
          have cE := fun wx => mref_CheckEntry x wx hxs.1 hxs.2.1 hxs.2.2.1 hxs.2.2.2
          obtain ⟨aa, haa⟩ : ∃ aa, a.add (i * 5) = aa := ⟨_, rfl⟩
          rw [haa] at a0 a1 a2 a3 a4
          simp only [Addr.add, Nat.reduceEqDiff, ↓reduceIte] at a1 a2 a3 a4
          unfold EntV at cE
          generalize okE x = ox at *
          have HBW := Lib.hid hb
          have e5d : wp.drew.cell? ⟨w.heap.size, 5, none⟩ = some (.slice (some a) f.ents.length d1) := e5
          cases ox
          case false =>
            have S0 : wp.drew.cell? ⟨w.heap.size, 5, none⟩ = some (.slice (some a) f.ents.length d1) ∧ wp.drew.cell? aa = some (.string x.id) ∧ wp.drew.cell? { block := aa.block, off := aa.off + 1 } = some (.string x.title) ∧ wp.drew.cell? { block := aa.block, off := aa.off + 2 } = some (.string x.link) ∧ wp.drew.cell? { block := aa.block, off := aa.off + 3 } = some (.string x.content) ∧ wp.drew.cell? { block := aa.block, off := aa.off + 4 } = some (.int .i64 x.upd) := ⟨e5, a0, a1, a2, a3, a4⟩
            have hSB : ∀ u1 u2 : World, Below u1.heap.size u1 u2 → (u1.cell? ⟨w.heap.size, 5, none⟩ = some (.slice (some a) f.ents.length d1) ∧ u1.cell? aa = some (.string x.id) ∧ u1.cell? { block := aa.block, off := aa.off + 1 } = some (.string x.title) ∧ u1.cell? { block := aa.block, off := aa.off + 2 } = some (.string x.link) ∧ u1.cell? { block := aa.block, off := aa.off + 3 } = some (.string x.content) ∧ u1.cell? { block := aa.block, off := aa.off + 4 } = some (.int .i64 x.upd)) → (u2.cell? ⟨w.heap.size, 5, none⟩ = some (.slice (some a) f.ents.length d1) ∧ u2.cell? aa = some (.string x.id) ∧ u2.cell? { block := aa.block, off := aa.off + 1 } = some (.string x.title) ∧ u2.cell? { block := aa.block, off := aa.off + 2 } = some (.string x.link) ∧ u2.cell? { block := aa.block, off := aa.off + 3 } = some (.string x.content) ∧ u2.cell? { block := aa.block, off := aa.off + 4 } = some (.int .i64 x.upd)) := fun u1 u2 hb h => by
              obtain ⟨z0, z1, z2, z3, z4, z5⟩ := h
              exact ⟨mcell hb z0, mcell hb z1, mcell hb z2, mcell hb z3, mcell hb z4, mcell hb z5⟩
            clear a0 a1 a2 a3 a4 e5d hb
            have HRR := Lib.hid hR
            clear hR
            rw [show errZ false = 22 from rfl] at cE
            go_wp2
            refine wp_region_late (S := fun w' => w'.cell? ⟨w.heap.size, 5, none⟩ = some (.slice (some a) f.ents.length d1) ∧ w'.cell? aa = some (.string x.id) ∧ w'.cell? { block := aa.block, off := aa.off + 1 } = some (.string x.title) ∧ w'.cell? { block := aa.block, off := aa.off + 2 } = some (.string x.link) ∧ w'.cell? { block := aa.block, off := aa.off + 3 } = some (.string x.content) ∧ w'.cell? { block := aa.block, off := aa.off + 4 } = some (.int .i64 x.upd)) (D := []) (by kernel_rfl) ?_
            refine anyL_take (i := 0) (oi := { dst := Option.some 68, op := Go.Op.fieldAddr 35 (Go.Operand.tmp 1) 5, type := 0, pos := "ref.go:33", after := #[], guard := Option.none }) (v := ?_) rfl (by decide) (by kernel_rfl) (by kernel_rfl) (by kernel_rfl) (by kernel_rfl) (fun _ _ _ h => h) (Or.inl ⟨by rfl, ?_⟩) S0 ?_
            rotate_left
            · intro wz hSz
              skip
              go_simp
              (try with_reducible rfl)
            try simp only [Act.put, List.setIfInBounds_toArray, List.set_cons_zero, List.set_cons_succ]
            refine anyL_take (i := 1) (oi := { dst := Option.some 69, op := Go.Op.load 33 (Go.Operand.tmp 68), type := 33, pos := "ref.go:33", after := #[{ on := 0, ground := Go.Ground.data }], guard := Option.none }) (v := ?_) rfl (by decide) (by kernel_rfl) (by kernel_rfl) (by kernel_rfl) (by kernel_rfl) (fun _ _ _ h => h) (Or.inl ⟨by rfl, ?_⟩) S0 ?_
            rotate_left
            · intro wz hSz
              obtain ⟨z0, z1, z2, z3, z4, z5⟩ := hSz
              go_simp
              (try with_reducible rfl)
            try simp only [Act.put, List.setIfInBounds_toArray, List.set_cons_zero, List.set_cons_succ]
            refine anyL_take (i := 2) (oi := { dst := Option.some 70, op := Go.Op.move (Go.Operand.tmp 4), type := 3, pos := "ref.go:33", after := #[], guard := Option.none }) (v := ?_) rfl (by decide) (by kernel_rfl) (by kernel_rfl) (by kernel_rfl) (by kernel_rfl) (fun _ _ _ h => h) (Or.inl ⟨by rfl, ?_⟩) S0 ?_
            rotate_left
            · intro wz hSz
              skip
              go_simp
              (try with_reducible rfl)
            try simp only [Act.put, List.setIfInBounds_toArray, List.set_cons_zero, List.set_cons_succ]
            refine anyL_take (i := 3) (oi := { dst := Option.some 71, op := Go.Op.indexAddr 33 (Go.Operand.tmp 69) (Go.Operand.tmp 70), type := 0, pos := "ref.go:33", after := #[{ on := 1, ground := Go.Ground.data }, { on := 2, ground := Go.Ground.data }], guard := Option.none }) (v := ?_) rfl (by decide) (by kernel_rfl) (by kernel_rfl) (by kernel_rfl) (by kernel_rfl) (fun _ _ _ h => h) (Or.inl ⟨by rfl, ?_⟩) S0 ?_
            rotate_left
            · intro wz hSz
              skip
              go_simp
              (try with_reducible rfl)
            try simp only [Act.put, List.setIfInBounds_toArray, List.set_cons_zero, List.set_cons_succ]
            refine anyL_take (i := 4) (oi := { dst := Option.some 72, op := Go.Op.load 23 (Go.Operand.tmp 71), type := 23, pos := "ref.go:33", after := #[{ on := 3, ground := Go.Ground.data }], guard := Option.none }) (v := ?_) rfl (by decide) (by kernel_rfl) (by kernel_rfl) (by kernel_rfl) (by kernel_rfl) (fun _ _ _ h => h) (Or.inl ⟨by rfl, ?_⟩) S0 ?_
            rotate_left
            · intro wz hSz
              obtain ⟨z0, z1, z2, z3, z4, z5⟩ := hSz
              go_simp
              (try with_reducible rfl)
            try simp only [Act.put, List.setIfInBounds_toArray, List.set_cons_zero, List.set_cons_succ]
            refine anyL_ready (rs := [5]) (by kernel_rfl) (by simp) ?_
            refine AllL.cons (o := { dst := Option.some 73, op := Go.Op.call { callee := Go.Callee.value (Go.Operand.func 13), args := #[Go.Operand.tmp 72], argTypes := #[23] }, type := 3, pos := "ref.go:33", after := #[{ on := 4, ground := Go.Ground.data }], guard := Option.none }) rfl (fun K' hK => ?_) AllL.nil
            rw [if_pos (by rfl)]
            go_simp
            go_at_call 13
            refine (cE _).mono ?_
            rintro e w6 ⟨rfl, b6⟩
            have S6 := hSB _ _ b6 S0
            refine hK _ _ S6 ?_
            clear hK K'
            try simp only [Act.put, List.setIfInBounds_toArray, List.set_cons_zero, List.set_cons_succ]
            refine anyL_take (i := 6) (oi := { dst := Option.some 74, op := Go.Op.binOp Go.BinOp.neq 3 (Go.Operand.tmp 73) (Go.Operand.const (Go.Value.int Go.IntKind.i64 0)) 3, type := 4, pos := "ref.go:33", after := #[{ on := 5, ground := Go.Ground.data }], guard := Option.none }) (v := ?_) rfl (by decide) (by kernel_rfl) (by kernel_rfl) (by kernel_rfl) (by kernel_rfl) (fun _ _ _ h => h) (Or.inl ⟨by rfl, ?_⟩) S6 ?_
            rotate_left
            · intro wz hSz
              skip
              go_simp
              (try with_reducible rfl)
            try simp only [Act.put, List.setIfInBounds_toArray, List.set_cons_zero, List.set_cons_succ]
            refine anyL_take (i := 7) (oi := { dst := Option.some 75, op := Go.Op.move (Go.Operand.tmp 74), type := 4, pos := "ref.go:33", after := #[{ on := 6, ground := Go.Ground.data }, { on := 5, ground := Go.Ground.chain }], guard := Option.none }) (v := ?_) rfl (by decide) (by kernel_rfl) (by kernel_rfl) (by kernel_rfl) (by kernel_rfl) (fun _ _ _ h => h) (Or.inl ⟨by rfl, ?_⟩) S6 ?_
            rotate_left
            · intro wz hSz
              skip
              go_simp
              (try with_reducible rfl)
            try simp only [Act.put, List.setIfInBounds_toArray, List.set_cons_zero, List.set_cons_succ]
            refine anyL_take (i := 8) (oi := { dst := Option.some 76, op := Go.Op.move (Go.Operand.tmp 4), type := 3, pos := "ref.go:33", after := #[{ on := 7, ground := Go.Ground.guard }], guard := Option.some (7, Bool.false) }) (v := undef) rfl (by decide) (by kernel_rfl) (by kernel_rfl) (by kernel_rfl) (by kernel_rfl) (fun _ _ _ h => h) (Or.inr ⟨by rfl, rfl⟩) S6 ?_
            try simp only [Act.put, List.setIfInBounds_toArray, List.set_cons_zero, List.set_cons_succ]
            refine anyL_take (i := 9) (oi := { dst := Option.some 77, op := Go.Op.binOp Go.BinOp.gtr 3 (Go.Operand.tmp 76) (Go.Operand.const (Go.Value.int Go.IntKind.i64 0)) 3, type := 4, pos := "ref.go:33", after := #[{ on := 8, ground := Go.Ground.data }, { on := 7, ground := Go.Ground.guard }], guard := Option.some (7, Bool.false) }) (v := undef) rfl (by decide) (by kernel_rfl) (by kernel_rfl) (by kernel_rfl) (by kernel_rfl) (fun _ _ _ h => h) (Or.inr ⟨by rfl, rfl⟩) S6 ?_
            try simp only [Act.put, List.setIfInBounds_toArray, List.set_cons_zero, List.set_cons_succ]
            refine anyL_take (i := 10) (oi := { dst := Option.some 78, op := Go.Op.move (Go.Operand.tmp 77), type := 4, pos := "ref.go:33", after := #[{ on := 9, ground := Go.Ground.data }, { on := 7, ground := Go.Ground.chain }, { on := 7, ground := Go.Ground.guard }], guard := Option.some (7, Bool.false) }) (v := undef) rfl (by decide) (by kernel_rfl) (by kernel_rfl) (by kernel_rfl) (by kernel_rfl) (fun _ _ _ h => h) (Or.inr ⟨by rfl, rfl⟩) S6 ?_
            try simp only [Act.put, List.setIfInBounds_toArray, List.set_cons_zero, List.set_cons_succ]
            refine anyL_take (i := 11) (oi := { dst := Option.some 79, op := Go.Op.fieldAddr 35 (Go.Operand.tmp 1) 5, type := 0, pos := "ref.go:33", after := #[{ on := 10, ground := Go.Ground.guard }], guard := Option.some (10, Bool.true) }) (v := undef) rfl (by decide) (by kernel_rfl) (by kernel_rfl) (by kernel_rfl) (by kernel_rfl) (fun _ _ _ h => h) (Or.inr ⟨by rfl, rfl⟩) S6 ?_
            try simp only [Act.put, List.setIfInBounds_toArray, List.set_cons_zero, List.set_cons_succ]
            refine anyL_take (i := 12) (oi := { dst := Option.some 80, op := Go.Op.load 33 (Go.Operand.tmp 79), type := 33, pos := "ref.go:33", after := #[{ on := 11, ground := Go.Ground.data }, { on := 10, ground := Go.Ground.guard }], guard := Option.some (10, Bool.true) }) (v := undef) rfl (by decide) (by kernel_rfl) (by kernel_rfl) (by kernel_rfl) (by kernel_rfl) (fun _ _ _ h => h) (Or.inr ⟨by rfl, rfl⟩) S6 ?_
            try simp only [Act.put, List.setIfInBounds_toArray, List.set_cons_zero, List.set_cons_succ]
            refine anyL_take (i := 13) (oi := { dst := Option.some 81, op := Go.Op.move (Go.Operand.tmp 4), type := 3, pos := "ref.go:33", after := #[{ on := 10, ground := Go.Ground.guard }], guard := Option.some (10, Bool.true) }) (v := undef) rfl (by decide) (by kernel_rfl) (by kernel_rfl) (by kernel_rfl) (by kernel_rfl) (fun _ _ _ h => h) (Or.inr ⟨by rfl, rfl⟩) S6 ?_
            try simp only [Act.put, List.setIfInBounds_toArray, List.set_cons_zero, List.set_cons_succ]
            refine anyL_take (i := 14) (oi := { dst := Option.some 82, op := Go.Op.binOp Go.BinOp.sub 3 (Go.Operand.tmp 81) (Go.Operand.const (Go.Value.int Go.IntKind.i64 1)) 3, type := 3, pos := "ref.go:33", after := #[{ on := 13, ground := Go.Ground.data }, { on := 10, ground := Go.Ground.guard }], guard := Option.some (10, Bool.true) }) (v := undef) rfl (by decide) (by kernel_rfl) (by kernel_rfl) (by kernel_rfl) (by kernel_rfl) (fun _ _ _ h => h) (Or.inr ⟨by rfl, rfl⟩) S6 ?_
            try simp only [Act.put, List.setIfInBounds_toArray, List.set_cons_zero, List.set_cons_succ]
            refine anyL_take (i := 15) (oi := { dst := Option.some 83, op := Go.Op.indexAddr 33 (Go.Operand.tmp 80) (Go.Operand.tmp 82), type := 0, pos := "ref.go:33", after := #[{ on := 12, ground := Go.Ground.data }, { on := 14, ground := Go.Ground.data }, { on := 10, ground := Go.Ground.guard }], guard := Option.some (10, Bool.true) }) (v := undef) rfl (by decide) (by kernel_rfl) (by kernel_rfl) (by kernel_rfl) (by kernel_rfl) (fun _ _ _ h => h) (Or.inr ⟨by rfl, rfl⟩) S6 ?_
            try simp only [Act.put, List.setIfInBounds_toArray, List.set_cons_zero, List.set_cons_succ]
            refine anyL_take (i := 16) (oi := { dst := Option.some 84, op := Go.Op.load 23 (Go.Operand.tmp 83), type := 23, pos := "ref.go:33", after := #[{ on := 15, ground := Go.Ground.data }, { on := 10, ground := Go.Ground.guard }], guard := Option.some (10, Bool.true) }) (v := undef) rfl (by decide) (by kernel_rfl) (by kernel_rfl) (by kernel_rfl) (by kernel_rfl) (fun _ _ _ h => h) (Or.inr ⟨by rfl, rfl⟩) S6 ?_
            try simp only [Act.put, List.setIfInBounds_toArray, List.set_cons_zero, List.set_cons_succ]
            refine anyL_take (i := 17) (oi := { dst := Option.some 85, op := Go.Op.fieldAddr 35 (Go.Operand.tmp 1) 5, type := 0, pos := "ref.go:33", after := #[{ on := 10, ground := Go.Ground.guard }], guard := Option.some (10, Bool.true) }) (v := undef) rfl (by decide) (by kernel_rfl) (by kernel_rfl) (by kernel_rfl) (by kernel_rfl) (fun _ _ _ h => h) (Or.inr ⟨by rfl, rfl⟩) S6 ?_
            try simp only [Act.put, List.setIfInBounds_toArray, List.set_cons_zero, List.set_cons_succ]
            refine anyL_take (i := 18) (oi := { dst := Option.some 86, op := Go.Op.load 33 (Go.Operand.tmp 85), type := 33, pos := "ref.go:33", after := #[{ on := 17, ground := Go.Ground.data }, { on := 10, ground := Go.Ground.guard }], guard := Option.some (10, Bool.true) }) (v := undef) rfl (by decide) (by kernel_rfl) (by kernel_rfl) (by kernel_rfl) (by kernel_rfl) (fun _ _ _ h => h) (Or.inr ⟨by rfl, rfl⟩) S6 ?_
            try simp only [Act.put, List.setIfInBounds_toArray, List.set_cons_zero, List.set_cons_succ]
            refine anyL_take (i := 19) (oi := { dst := Option.some 87, op := Go.Op.move (Go.Operand.tmp 4), type := 3, pos := "ref.go:33", after := #[{ on := 10, ground := Go.Ground.guard }], guard := Option.some (10, Bool.true) }) (v := undef) rfl (by decide) (by kernel_rfl) (by kernel_rfl) (by kernel_rfl) (by kernel_rfl) (fun _ _ _ h => h) (Or.inr ⟨by rfl, rfl⟩) S6 ?_
            try simp only [Act.put, List.setIfInBounds_toArray, List.set_cons_zero, List.set_cons_succ]
            refine anyL_take (i := 20) (oi := { dst := Option.some 88, op := Go.Op.indexAddr 33 (Go.Operand.tmp 86) (Go.Operand.tmp 87), type := 0, pos := "ref.go:33", after := #[{ on := 18, ground := Go.Ground.data }, { on := 19, ground := Go.Ground.data }, { on := 10, ground := Go.Ground.guard }], guard := Option.some (10, Bool.true) }) (v := undef) rfl (by decide) (by kernel_rfl) (by kernel_rfl) (by kernel_rfl) (by kernel_rfl) (fun _ _ _ h => h) (Or.inr ⟨by rfl, rfl⟩) S6 ?_
            try simp only [Act.put, List.setIfInBounds_toArray, List.set_cons_zero, List.set_cons_succ]
            refine anyL_take (i := 21) (oi := { dst := Option.some 89, op := Go.Op.load 23 (Go.Operand.tmp 88), type := 23, pos := "ref.go:33", after := #[{ on := 20, ground := Go.Ground.data }, { on := 10, ground := Go.Ground.guard }], guard := Option.some (10, Bool.true) }) (v := undef) rfl (by decide) (by kernel_rfl) (by kernel_rfl) (by kernel_rfl) (by kernel_rfl) (fun _ _ _ h => h) (Or.inr ⟨by rfl, rfl⟩) S6 ?_
            try simp only [Act.put, List.setIfInBounds_toArray, List.set_cons_zero, List.set_cons_succ]
            refine anyL_take (i := 22) (oi := { dst := Option.some 90, op := Go.Op.call { callee := Go.Callee.value (Go.Operand.func 41), args := #[Go.Operand.tmp 84, Go.Operand.tmp 89], argTypes := #[23, 23] }, type := 3, pos := "ref.go:33", after := #[{ on := 16, ground := Go.Ground.data }, { on := 21, ground := Go.Ground.data }, { on := 10, ground := Go.Ground.chain }, { on := 10, ground := Go.Ground.guard }], guard := Option.some (10, Bool.true) }) (v := undef) rfl (by decide) (by kernel_rfl) (by kernel_rfl) (by kernel_rfl) (by kernel_rfl) (fun _ _ _ h => h) (Or.inr ⟨by rfl, rfl⟩) S6 ?_
            try simp only [Act.put, List.setIfInBounds_toArray, List.set_cons_zero, List.set_cons_succ]
            refine anyL_take (i := 23) (oi := { dst := Option.some 91, op := Go.Op.binOp Go.BinOp.geq 3 (Go.Operand.tmp 90) (Go.Operand.const (Go.Value.int Go.IntKind.i64 0)) 3, type := 4, pos := "ref.go:33", after := #[{ on := 22, ground := Go.Ground.data }, { on := 10, ground := Go.Ground.guard }], guard := Option.some (10, Bool.true) }) (v := undef) rfl (by decide) (by kernel_rfl) (by kernel_rfl) (by kernel_rfl) (by kernel_rfl) (fun _ _ _ h => h) (Or.inr ⟨by rfl, rfl⟩) S6 ?_
            try simp only [Act.put, List.setIfInBounds_toArray, List.set_cons_zero, List.set_cons_succ]
            refine anyL_take (i := 24) (oi := { dst := Option.some 92, op := Go.Op.pick (Go.Operand.tmp 78) (Go.Operand.tmp 91) (Go.Operand.const (Go.Value.bool Bool.false)), type := 4, pos := "ref.go:33", after := #[{ on := 10, ground := Go.Ground.data }, { on := 23, ground := Go.Ground.data }, { on := 7, ground := Go.Ground.guard }], guard := Option.some (7, Bool.false) }) (v := undef) rfl (by decide) (by kernel_rfl) (by kernel_rfl) (by kernel_rfl) (by kernel_rfl) (fun _ _ _ h => h) (Or.inr ⟨by rfl, rfl⟩) S6 ?_
            try simp only [Act.put, List.setIfInBounds_toArray, List.set_cons_zero, List.set_cons_succ]
            refine anyL_take (i := 25) (oi := { dst := Option.some 93, op := Go.Op.pick (Go.Operand.tmp 75) (Go.Operand.const (Go.Value.bool Bool.true)) (Go.Operand.tmp 92), type := 4, pos := "ref.go:33", after := #[{ on := 7, ground := Go.Ground.data }, { on := 24, ground := Go.Ground.data }], guard := Option.none }) (v := ?_) rfl (by decide) (by kernel_rfl) (by kernel_rfl) (by kernel_rfl) (by kernel_rfl) (fun _ _ _ h => h) (Or.inl ⟨by rfl, ?_⟩) S6 ?_
            rotate_left
            · intro wz hSz
              skip
              go_simp
              (try with_reducible rfl)
            try simp only [Act.put, List.setIfInBounds_toArray, List.set_cons_zero, List.set_cons_succ]
            refine anyL_done (by kernel_rfl) ?_ _
            all_goals
              go_wp2
              go_ret
              exact ⟨mretI HRR.out.symm, HB5.out.trans ((HBW.out.trans (((Below.refl _ _).drew.trans b6).mono HBW.out.size)).mono HB5.out.size)⟩
          rcases (show i = 0 ∨ ∃ k, i = k + 1 from by cases i with | zero => exact .inl rfl | succ k => exact .inr ⟨k, rfl⟩) with rfl | ⟨k, rfl⟩
          · rw [lastOk_zero, Bool.true_and] at hR
            have S0 : wp.drew.cell? ⟨w.heap.size, 5, none⟩ = some (.slice (some a) f.ents.length d1) ∧ wp.drew.cell? aa = some (.string x.id) ∧ wp.drew.cell? { block := aa.block, off := aa.off + 1 } = some (.string x.title) ∧ wp.drew.cell? { block := aa.block, off := aa.off + 2 } = some (.string x.link) ∧ wp.drew.cell? { block := aa.block, off := aa.off + 3 } = some (.string x.content) ∧ wp.drew.cell? { block := aa.block, off := aa.off + 4 } = some (.int .i64 x.upd) := ⟨e5, a0, a1, a2, a3, a4⟩
            have hSB : ∀ u1 u2 : World, Below u1.heap.size u1 u2 → (u1.cell? ⟨w.heap.size, 5, none⟩ = some (.slice (some a) f.ents.length d1) ∧ u1.cell? aa = some (.string x.id) ∧ u1.cell? { block := aa.block, off := aa.off + 1 } = some (.string x.title) ∧ u1.cell? { block := aa.block, off := aa.off + 2 } = some (.string x.link) ∧ u1.cell? { block := aa.block, off := aa.off + 3 } = some (.string x.content) ∧ u1.cell? { block := aa.block, off := aa.off + 4 } = some (.int .i64 x.upd)) → (u2.cell? ⟨w.heap.size, 5, none⟩ = some (.slice (some a) f.ents.length d1) ∧ u2.cell? aa = some (.string x.id) ∧ u2.cell? { block := aa.block, off := aa.off + 1 } = some (.string x.title) ∧ u2.cell? { block := aa.block, off := aa.off + 2 } = some (.string x.link) ∧ u2.cell? { block := aa.block, off := aa.off + 3 } = some (.string x.content) ∧ u2.cell? { block := aa.block, off := aa.off + 4 } = some (.int .i64 x.upd)) := fun u1 u2 hb h => by
              obtain ⟨z0, z1, z2, z3, z4, z5⟩ := h
              exact ⟨mcell hb z0, mcell hb z1, mcell hb z2, mcell hb z3, mcell hb z4, mcell hb z5⟩
            clear a0 a1 a2 a3 a4 e5d hb
            rw [show errZ true = 0 from rfl] at cE
            rw [Bool.true_and] at hR
            have HRI := Lib.hid (show R = errZ (!(((f.ents.take 0).drop 0).any fun e => decide (e.id = x.id)) && okEs (f.ents.take (0 + 1)) (f.ents.drop (0 + 1))) from hR)
            clear hR
            go_wp2
            refine wp_region_late (S := fun w' => w'.cell? ⟨w.heap.size, 5, none⟩ = some (.slice (some a) f.ents.length d1) ∧ w'.cell? aa = some (.string x.id) ∧ w'.cell? { block := aa.block, off := aa.off + 1 } = some (.string x.title) ∧ w'.cell? { block := aa.block, off := aa.off + 2 } = some (.string x.link) ∧ w'.cell? { block := aa.block, off := aa.off + 3 } = some (.string x.content) ∧ w'.cell? { block := aa.block, off := aa.off + 4 } = some (.int .i64 x.upd)) (D := []) (by kernel_rfl) ?_
            refine anyL_take (i := 0) (oi := { dst := Option.some 68, op := Go.Op.fieldAddr 35 (Go.Operand.tmp 1) 5, type := 0, pos := "ref.go:33", after := #[], guard := Option.none }) (v := ?_) rfl (by decide) (by kernel_rfl) (by kernel_rfl) (by kernel_rfl) (by kernel_rfl) (fun _ _ _ h => h) (Or.inl ⟨by rfl, ?_⟩) S0 ?_
            rotate_left
            · intro wz hSz
              skip
              go_simp
              (try with_reducible rfl)
            try simp only [Act.put, List.setIfInBounds_toArray, List.set_cons_zero, List.set_cons_succ]
            refine anyL_take (i := 1) (oi := { dst := Option.some 69, op := Go.Op.load 33 (Go.Operand.tmp 68), type := 33, pos := "ref.go:33", after := #[{ on := 0, ground := Go.Ground.data }], guard := Option.none }) (v := ?_) rfl (by decide) (by kernel_rfl) (by kernel_rfl) (by kernel_rfl) (by kernel_rfl) (fun _ _ _ h => h) (Or.inl ⟨by rfl, ?_⟩) S0 ?_
            rotate_left
            · intro wz hSz
              obtain ⟨z0, z1, z2, z3, z4, z5⟩ := hSz
              go_simp
              (try with_reducible rfl)
            try simp only [Act.put, List.setIfInBounds_toArray, List.set_cons_zero, List.set_cons_succ]
            refine anyL_take (i := 2) (oi := { dst := Option.some 70, op := Go.Op.move (Go.Operand.tmp 4), type := 3, pos := "ref.go:33", after := #[], guard := Option.none }) (v := ?_) rfl (by decide) (by kernel_rfl) (by kernel_rfl) (by kernel_rfl) (by kernel_rfl) (fun _ _ _ h => h) (Or.inl ⟨by rfl, ?_⟩) S0 ?_
            rotate_left
            · intro wz hSz
              skip
              go_simp
              (try with_reducible rfl)
            try simp only [Act.put, List.setIfInBounds_toArray, List.set_cons_zero, List.set_cons_succ]
            refine anyL_take (i := 3) (oi := { dst := Option.some 71, op := Go.Op.indexAddr 33 (Go.Operand.tmp 69) (Go.Operand.tmp 70), type := 0, pos := "ref.go:33", after := #[{ on := 1, ground := Go.Ground.data }, { on := 2, ground := Go.Ground.data }], guard := Option.none }) (v := ?_) rfl (by decide) (by kernel_rfl) (by kernel_rfl) (by kernel_rfl) (by kernel_rfl) (fun _ _ _ h => h) (Or.inl ⟨by rfl, ?_⟩) S0 ?_
            rotate_left
            · intro wz hSz
              skip
              go_simp
              (try with_reducible rfl)
            try simp only [Act.put, List.setIfInBounds_toArray, List.set_cons_zero, List.set_cons_succ]
            refine anyL_take (i := 4) (oi := { dst := Option.some 72, op := Go.Op.load 23 (Go.Operand.tmp 71), type := 23, pos := "ref.go:33", after := #[{ on := 3, ground := Go.Ground.data }], guard := Option.none }) (v := ?_) rfl (by decide) (by kernel_rfl) (by kernel_rfl) (by kernel_rfl) (by kernel_rfl) (fun _ _ _ h => h) (Or.inl ⟨by rfl, ?_⟩) S0 ?_
            rotate_left
            · intro wz hSz
              obtain ⟨z0, z1, z2, z3, z4, z5⟩ := hSz
              go_simp
              (try with_reducible rfl)
            try simp only [Act.put, List.setIfInBounds_toArray, List.set_cons_zero, List.set_cons_succ]
            refine anyL_ready (rs := [5]) (by kernel_rfl) (by simp) ?_
            refine AllL.cons (o := { dst := Option.some 73, op := Go.Op.call { callee := Go.Callee.value (Go.Operand.func 13), args := #[Go.Operand.tmp 72], argTypes := #[23] }, type := 3, pos := "ref.go:33", after := #[{ on := 4, ground := Go.Ground.data }], guard := Option.none }) rfl (fun K' hK => ?_) AllL.nil
            rw [if_pos (by rfl)]
            go_simp
            go_at_call 13
            refine (cE _).mono ?_
            rintro e w6 ⟨rfl, b6⟩
            have S6 := hSB _ _ b6 S0
            refine hK _ _ S6 ?_
            clear hK K'
            try simp only [Act.put, List.setIfInBounds_toArray, List.set_cons_zero, List.set_cons_succ]
            refine anyL_take (i := 6) (oi := { dst := Option.some 74, op := Go.Op.binOp Go.BinOp.neq 3 (Go.Operand.tmp 73) (Go.Operand.const (Go.Value.int Go.IntKind.i64 0)) 3, type := 4, pos := "ref.go:33", after := #[{ on := 5, ground := Go.Ground.data }], guard := Option.none }) (v := ?_) rfl (by decide) (by kernel_rfl) (by kernel_rfl) (by kernel_rfl) (by kernel_rfl) (fun _ _ _ h => h) (Or.inl ⟨by rfl, ?_⟩) S6 ?_
            rotate_left
            · intro wz hSz
              skip
              go_simp
              (try with_reducible rfl)
            try simp only [Act.put, List.setIfInBounds_toArray, List.set_cons_zero, List.set_cons_succ]
            refine anyL_take (i := 7) (oi := { dst := Option.some 75, op := Go.Op.move (Go.Operand.tmp 74), type := 4, pos := "ref.go:33", after := #[{ on := 6, ground := Go.Ground.data }, { on := 5, ground := Go.Ground.chain }], guard := Option.none }) (v := ?_) rfl (by decide) (by kernel_rfl) (by kernel_rfl) (by kernel_rfl) (by kernel_rfl) (fun _ _ _ h => h) (Or.inl ⟨by rfl, ?_⟩) S6 ?_
            rotate_left
            · intro wz hSz
              skip
              go_simp
              (try with_reducible rfl)
            try simp only [Act.put, List.setIfInBounds_toArray, List.set_cons_zero, List.set_cons_succ]
            refine anyL_take (i := 8) (oi := { dst := Option.some 76, op := Go.Op.move (Go.Operand.tmp 4), type := 3, pos := "ref.go:33", after := #[{ on := 7, ground := Go.Ground.guard }], guard := Option.some (7, Bool.false) }) (v := ?_) rfl (by decide) (by kernel_rfl) (by kernel_rfl) (by kernel_rfl) (by kernel_rfl) (fun _ _ _ h => h) (Or.inl ⟨by rfl, ?_⟩) S6 ?_
            rotate_left
            · intro wz hSz
              skip
              go_simp
              (try with_reducible rfl)
            try simp only [Act.put, List.setIfInBounds_toArray, List.set_cons_zero, List.set_cons_succ]
            refine anyL_take (i := 9) (oi := { dst := Option.some 77, op := Go.Op.binOp Go.BinOp.gtr 3 (Go.Operand.tmp 76) (Go.Operand.const (Go.Value.int Go.IntKind.i64 0)) 3, type := 4, pos := "ref.go:33", after := #[{ on := 8, ground := Go.Ground.data }, { on := 7, ground := Go.Ground.guard }], guard := Option.some (7, Bool.false) }) (v := ?_) rfl (by decide) (by kernel_rfl) (by kernel_rfl) (by kernel_rfl) (by kernel_rfl) (fun _ _ _ h => h) (Or.inl ⟨by rfl, ?_⟩) S6 ?_
            rotate_left
            · intro wz hSz
              skip
              go_simp
              (try with_reducible rfl)
            try simp only [Act.put, List.setIfInBounds_toArray, List.set_cons_zero, List.set_cons_succ]
            refine anyL_take (i := 10) (oi := { dst := Option.some 78, op := Go.Op.move (Go.Operand.tmp 77), type := 4, pos := "ref.go:33", after := #[{ on := 9, ground := Go.Ground.data }, { on := 7, ground := Go.Ground.chain }, { on := 7, ground := Go.Ground.guard }], guard := Option.some (7, Bool.false) }) (v := ?_) rfl (by decide) (by kernel_rfl) (by kernel_rfl) (by kernel_rfl) (by kernel_rfl) (fun _ _ _ h => h) (Or.inl ⟨by rfl, ?_⟩) S6 ?_
            rotate_left
            · intro wz hSz
              skip
              go_simp
              (try with_reducible rfl)
            try simp only [Act.put, List.setIfInBounds_toArray, List.set_cons_zero, List.set_cons_succ]
            refine anyL_take (i := 11) (oi := { dst := Option.some 79, op := Go.Op.fieldAddr 35 (Go.Operand.tmp 1) 5, type := 0, pos := "ref.go:33", after := #[{ on := 10, ground := Go.Ground.guard }], guard := Option.some (10, Bool.true) }) (v := undef) rfl (by decide) (by kernel_rfl) (by kernel_rfl) (by kernel_rfl) (by kernel_rfl) (fun _ _ _ h => h) (Or.inr ⟨by rfl, rfl⟩) S6 ?_
            try simp only [Act.put, List.setIfInBounds_toArray, List.set_cons_zero, List.set_cons_succ]
            refine anyL_take (i := 12) (oi := { dst := Option.some 80, op := Go.Op.load 33 (Go.Operand.tmp 79), type := 33, pos := "ref.go:33", after := #[{ on := 11, ground := Go.Ground.data }, { on := 10, ground := Go.Ground.guard }], guard := Option.some (10, Bool.true) }) (v := undef) rfl (by decide) (by kernel_rfl) (by kernel_rfl) (by kernel_rfl) (by kernel_rfl) (fun _ _ _ h => h) (Or.inr ⟨by rfl, rfl⟩) S6 ?_
            try simp only [Act.put, List.setIfInBounds_toArray, List.set_cons_zero, List.set_cons_succ]
            refine anyL_take (i := 13) (oi := { dst := Option.some 81, op := Go.Op.move (Go.Operand.tmp 4), type := 3, pos := "ref.go:33", after := #[{ on := 10, ground := Go.Ground.guard }], guard := Option.some (10, Bool.true) }) (v := undef) rfl (by decide) (by kernel_rfl) (by kernel_rfl) (by kernel_rfl) (by kernel_rfl) (fun _ _ _ h => h) (Or.inr ⟨by rfl, rfl⟩) S6 ?_
            try simp only [Act.put, List.setIfInBounds_toArray, List.set_cons_zero, List.set_cons_succ]
            refine anyL_take (i := 14) (oi := { dst := Option.some 82, op := Go.Op.binOp Go.BinOp.sub 3 (Go.Operand.tmp 81) (Go.Operand.const (Go.Value.int Go.IntKind.i64 1)) 3, type := 3, pos := "ref.go:33", after := #[{ on := 13, ground := Go.Ground.data }, { on := 10, ground := Go.Ground.guard }], guard := Option.some (10, Bool.true) }) (v := undef) rfl (by decide) (by kernel_rfl) (by kernel_rfl) (by kernel_rfl) (by kernel_rfl) (fun _ _ _ h => h) (Or.inr ⟨by rfl, rfl⟩) S6 ?_
            try simp only [Act.put, List.setIfInBounds_toArray, List.set_cons_zero, List.set_cons_succ]
            refine anyL_take (i := 15) (oi := { dst := Option.some 83, op := Go.Op.indexAddr 33 (Go.Operand.tmp 80) (Go.Operand.tmp 82), type := 0, pos := "ref.go:33", after := #[{ on := 12, ground := Go.Ground.data }, { on := 14, ground := Go.Ground.data }, { on := 10, ground := Go.Ground.guard }], guard := Option.some (10, Bool.true) }) (v := undef) rfl (by decide) (by kernel_rfl) (by kernel_rfl) (by kernel_rfl) (by kernel_rfl) (fun _ _ _ h => h) (Or.inr ⟨by rfl, rfl⟩) S6 ?_
            try simp only [Act.put, List.setIfInBounds_toArray, List.set_cons_zero, List.set_cons_succ]
            refine anyL_take (i := 16) (oi := { dst := Option.some 84, op := Go.Op.load 23 (Go.Operand.tmp 83), type := 23, pos := "ref.go:33", after := #[{ on := 15, ground := Go.Ground.data }, { on := 10, ground := Go.Ground.guard }], guard := Option.some (10, Bool.true) }) (v := undef) rfl (by decide) (by kernel_rfl) (by kernel_rfl) (by kernel_rfl) (by kernel_rfl) (fun _ _ _ h => h) (Or.inr ⟨by rfl, rfl⟩) S6 ?_
            try simp only [Act.put, List.setIfInBounds_toArray, List.set_cons_zero, List.set_cons_succ]
            refine anyL_take (i := 17) (oi := { dst := Option.some 85, op := Go.Op.fieldAddr 35 (Go.Operand.tmp 1) 5, type := 0, pos := "ref.go:33", after := #[{ on := 10, ground := Go.Ground.guard }], guard := Option.some (10, Bool.true) }) (v := undef) rfl (by decide) (by kernel_rfl) (by kernel_rfl) (by kernel_rfl) (by kernel_rfl) (fun _ _ _ h => h) (Or.inr ⟨by rfl, rfl⟩) S6 ?_
            try simp only [Act.put, List.setIfInBounds_toArray, List.set_cons_zero, List.set_cons_succ]
            refine anyL_take (i := 18) (oi := { dst := Option.some 86, op := Go.Op.load 33 (Go.Operand.tmp 85), type := 33, pos := "ref.go:33", after := #[{ on := 17, ground := Go.Ground.data }, { on := 10, ground := Go.Ground.guard }], guard := Option.some (10, Bool.true) }) (v := undef) rfl (by decide) (by kernel_rfl) (by kernel_rfl) (by kernel_rfl) (by kernel_rfl) (fun _ _ _ h => h) (Or.inr ⟨by rfl, rfl⟩) S6 ?_
            try simp only [Act.put, List.setIfInBounds_toArray, List.set_cons_zero, List.set_cons_succ]
            refine anyL_take (i := 19) (oi := { dst := Option.some 87, op := Go.Op.move (Go.Operand.tmp 4), type := 3, pos := "ref.go:33", after := #[{ on := 10, ground := Go.Ground.guard }], guard := Option.some (10, Bool.true) }) (v := undef) rfl (by decide) (by kernel_rfl) (by kernel_rfl) (by kernel_rfl) (by kernel_rfl) (fun _ _ _ h => h) (Or.inr ⟨by rfl, rfl⟩) S6 ?_
            try simp only [Act.put, List.setIfInBounds_toArray, List.set_cons_zero, List.set_cons_succ]
            refine anyL_take (i := 20) (oi := { dst := Option.some 88, op := Go.Op.indexAddr 33 (Go.Operand.tmp 86) (Go.Operand.tmp 87), type := 0, pos := "ref.go:33", after := #[{ on := 18, ground := Go.Ground.data }, { on := 19, ground := Go.Ground.data }, { on := 10, ground := Go.Ground.guard }], guard := Option.some (10, Bool.true) }) (v := undef) rfl (by decide) (by kernel_rfl) (by kernel_rfl) (by kernel_rfl) (by kernel_rfl) (fun _ _ _ h => h) (Or.inr ⟨by rfl, rfl⟩) S6 ?_
            try simp only [Act.put, List.setIfInBounds_toArray, List.set_cons_zero, List.set_cons_succ]
            refine anyL_take (i := 21) (oi := { dst := Option.some 89, op := Go.Op.load 23 (Go.Operand.tmp 88), type := 23, pos := "ref.go:33", after := #[{ on := 20, ground := Go.Ground.data }, { on := 10, ground := Go.Ground.guard }], guard := Option.some (10, Bool.true) }) (v := undef) rfl (by decide) (by kernel_rfl) (by kernel_rfl) (by kernel_rfl) (by kernel_rfl) (fun _ _ _ h => h) (Or.inr ⟨by rfl, rfl⟩) S6 ?_
            try simp only [Act.put, List.setIfInBounds_toArray, List.set_cons_zero, List.set_cons_succ]
            refine anyL_take (i := 22) (oi := { dst := Option.some 90, op := Go.Op.call { callee := Go.Callee.value (Go.Operand.func 41), args := #[Go.Operand.tmp 84, Go.Operand.tmp 89], argTypes := #[23, 23] }, type := 3, pos := "ref.go:33", after := #[{ on := 16, ground := Go.Ground.data }, { on := 21, ground := Go.Ground.data }, { on := 10, ground := Go.Ground.chain }, { on := 10, ground := Go.Ground.guard }], guard := Option.some (10, Bool.true) }) (v := undef) rfl (by decide) (by kernel_rfl) (by kernel_rfl) (by kernel_rfl) (by kernel_rfl) (fun _ _ _ h => h) (Or.inr ⟨by rfl, rfl⟩) S6 ?_
            try simp only [Act.put, List.setIfInBounds_toArray, List.set_cons_zero, List.set_cons_succ]
            refine anyL_take (i := 23) (oi := { dst := Option.some 91, op := Go.Op.binOp Go.BinOp.geq 3 (Go.Operand.tmp 90) (Go.Operand.const (Go.Value.int Go.IntKind.i64 0)) 3, type := 4, pos := "ref.go:33", after := #[{ on := 22, ground := Go.Ground.data }, { on := 10, ground := Go.Ground.guard }], guard := Option.some (10, Bool.true) }) (v := undef) rfl (by decide) (by kernel_rfl) (by kernel_rfl) (by kernel_rfl) (by kernel_rfl) (fun _ _ _ h => h) (Or.inr ⟨by rfl, rfl⟩) S6 ?_
            try simp only [Act.put, List.setIfInBounds_toArray, List.set_cons_zero, List.set_cons_succ]
            refine anyL_take (i := 24) (oi := { dst := Option.some 92, op := Go.Op.pick (Go.Operand.tmp 78) (Go.Operand.tmp 91) (Go.Operand.const (Go.Value.bool Bool.false)), type := 4, pos := "ref.go:33", after := #[{ on := 10, ground := Go.Ground.data }, { on := 23, ground := Go.Ground.data }, { on := 7, ground := Go.Ground.guard }], guard := Option.some (7, Bool.false) }) (v := ?_) rfl (by decide) (by kernel_rfl) (by kernel_rfl) (by kernel_rfl) (by kernel_rfl) (fun _ _ _ h => h) (Or.inl ⟨by rfl, ?_⟩) S6 ?_
            rotate_left
            · intro wz hSz
              skip
              go_simp
              (try with_reducible rfl)
            try simp only [Act.put, List.setIfInBounds_toArray, List.set_cons_zero, List.set_cons_succ]
            refine anyL_take (i := 25) (oi := { dst := Option.some 93, op := Go.Op.pick (Go.Operand.tmp 75) (Go.Operand.const (Go.Value.bool Bool.true)) (Go.Operand.tmp 92), type := 4, pos := "ref.go:33", after := #[{ on := 7, ground := Go.Ground.data }, { on := 24, ground := Go.Ground.data }], guard := Option.none }) (v := ?_) rfl (by decide) (by kernel_rfl) (by kernel_rfl) (by kernel_rfl) (by kernel_rfl) (fun _ _ _ h => h) (Or.inl ⟨by rfl, ?_⟩) S6 ?_
            rotate_left
            · intro wz hSz
              skip
              go_simp
              (try with_reducible rfl)
            try simp only [Act.put, List.setIfInBounds_toArray, List.set_cons_zero, List.set_cons_succ]
            refine anyL_done (by kernel_rfl) ?_ _
            have HBQ := Lib.hid (HBW.out.trans (((Below.refl wp.heap.size wp).drew.trans b6).mono HBW.out.size))
            clear S0 S6 hSB b6
            have X5 := (HX5.out.below HBQ.out).2.2.2.2.2
            have X0 := (HE5.out.below HBQ.out 0 hlt)
            go_wp2
            go_loopw [5] (fun zz wr => ∃ j : Nat, j ≤ 0 ∧ zz = .int .i64 (j : Int) ∧ R = errZ (!(((f.ents.take 0).drop j).any fun e => decide (e.id = x.id)) && okEs (f.ents.take (0 + 1)) (f.ents.drop (0 + 1))) ∧ Below w6.heap.size w6 wr) (fun zz _ => 0 - (RowKit.intOf zz).toNat)
            case atStart => exact ⟨0, Nat.zero_le _, rfl, HRI.out, Below.refl _ _⟩
            case round =>
              clear HRI
              obtain ⟨j, hj, rfl, hRj, hbj⟩ := hrel
              have hbk := Lib.hid hbj
              have HBJ := Lib.hid (HBQ.out.trans (hbj.mono HBQ.out.size))
              clear hbj
              by_cases hjl : j < 0
              · have hjz : (j : Int) < (0 : Int) := by omega
                have hjn : (j : Int) < (f.ents.length : Int) := by omega
                have e5j := (HX5.out.below HBJ.out).2.2.2.2.2
                obtain ⟨a2, ha2, c0, -⟩ := HE5.out.below HBJ.out j (by omega)
                obtain ⟨a3, ha3, x0, -⟩ := HE5.out.below HBJ.out 0 hlt
                cases ha2
                cases ha3
                rw [hx, haa] at x0
                rw [any_at f.ents x.id 0 j (by omega) hjl] at hRj
                obtain ⟨y2, hy2⟩ : ∃ y, f.ents[j] = y := ⟨_, rfl⟩
                rw [hy2] at c0 hRj
                obtain ⟨cc, hcc⟩ : ∃ cc, a.add (j * 5) = cc := ⟨_, rfl⟩
                rw [hcc] at c0
                clear hy2 X5 X0
                by_cases hq : y2.id = x.id
                · rw [decide_eq_true hq] at hRj
                  rw [hq] at c0
                  have HRR := Lib.hid hRj
                  clear hRj hq
                  go_wp2
                  go_quiet (fail)
                  go_wp2
                  go_ret
                  exact ⟨mretI HRR.out.symm, mdrewN (HB5.out.trans (HBJ.out.mono HB5.out.size)) _⟩
                · rw [decide_eq_false hq] at hRj
                  obtain ⟨n1, n2⟩ := mstr_ne hq
                  have HRR := Lib.hid hRj
                  clear hRj hq
                  go_wp2
                  go_quiet (fail)
                  go_wp2
                  go_roundw
                  case rel => exact ⟨j + 1, by omega, by go_num, HRR.out, mdrewN hbk.out _⟩
                  case measure => simp [RowKit.intOf]; omega
              · obtain rfl : j = 0 := by omega
                have hjz : ¬ (0 : Int) < (0 : Int) := by omega
                rw [List.drop_eq_nil_of_le (by rw [List.length_take]; omega)] at hRj
                have HRR := Lib.hid (show R = errZ (okEs (f.ents.take (0 + 1)) (f.ents.drop (0 + 1))) from hRj)
                clear hRj X5 X0
                go_wp2
                go_roundw
                case rel => exact ⟨0 + 1, by omega, by go_num, HRR.out, HBJ.out⟩
                case measure => simp [RowKit.intOf]; omega
          · have hkl : k < f.ents.length := by omega
            have hkz : (k : Int) < (f.ents.length : Int) := by omega
            rw [lastOk_succ f.ents k hkl] at hR
            obtain ⟨a5, ha5, y0, y1, y2, y3, y4⟩ := HE5.out.below hb k hkl
            cases ha5
            obtain ⟨y, hy⟩ : ∃ y, f.ents[k] = y := ⟨_, rfl⟩
            rw [hy] at y0 y1 y2 y3 y4 hR
            obtain ⟨bb, hbb⟩ : ∃ bb, a.add (k * 5) = bb := ⟨_, rfl⟩
            rw [hbb] at y0 y1 y2 y3 y4
            simp only [Addr.add, Nat.reduceEqDiff, ↓reduceIte] at y1 y2 y3 y4
            have cC := fun wx => mref_cmpE y x wx
            unfold EntV at cC
            have hk0 : (0 : Int) < (k : Int) + 1 := by omega
            have hk1z : (k : Int) + 1 < (f.ents.length : Int) := by omega
            have hk1n : (0 : Int) ≤ (k : Int) + 1 := by omega
            have hwk : IntKind.i64.wrap ((k : Int) + 1 - 1) = (k : Int) := by rw [show (k : Int) + 1 - 1 = k by omega]; exact wrap_small _ (by omega) (by omega)
            have hwz : (k : Int) + 1 - 1 = k := by omega
            have hwk2 : IntKind.i64.wrap (k : Int) = (k : Int) := wrap_small _ (by omega) (by omega)
            have S0 : wp.drew.cell? ⟨w.heap.size, 5, none⟩ = some (.slice (some a) f.ents.length d1) ∧ wp.drew.cell? aa = some (.string x.id) ∧ wp.drew.cell? { block := aa.block, off := aa.off + 1 } = some (.string x.title) ∧ wp.drew.cell? { block := aa.block, off := aa.off + 2 } = some (.string x.link) ∧ wp.drew.cell? { block := aa.block, off := aa.off + 3 } = some (.string x.content) ∧ wp.drew.cell? { block := aa.block, off := aa.off + 4 } = some (.int .i64 x.upd) ∧ wp.drew.cell? bb = some (.string y.id) ∧ wp.drew.cell? { block := bb.block, off := bb.off + 1 } = some (.string y.title) ∧ wp.drew.cell? { block := bb.block, off := bb.off + 2 } = some (.string y.link) ∧ wp.drew.cell? { block := bb.block, off := bb.off + 3 } = some (.string y.content) ∧ wp.drew.cell? { block := bb.block, off := bb.off + 4 } = some (.int .i64 y.upd) := ⟨e5, a0, a1, a2, a3, a4, y0, y1, y2, y3, y4⟩
            have hSB : ∀ u1 u2 : World, Below u1.heap.size u1 u2 → (u1.cell? ⟨w.heap.size, 5, none⟩ = some (.slice (some a) f.ents.length d1) ∧ u1.cell? aa = some (.string x.id) ∧ u1.cell? { block := aa.block, off := aa.off + 1 } = some (.string x.title) ∧ u1.cell? { block := aa.block, off := aa.off + 2 } = some (.string x.link) ∧ u1.cell? { block := aa.block, off := aa.off + 3 } = some (.string x.content) ∧ u1.cell? { block := aa.block, off := aa.off + 4 } = some (.int .i64 x.upd) ∧ u1.cell? bb = some (.string y.id) ∧ u1.cell? { block := bb.block, off := bb.off + 1 } = some (.string y.title) ∧ u1.cell? { block := bb.block, off := bb.off + 2 } = some (.string y.link) ∧ u1.cell? { block := bb.block, off := bb.off + 3 } = some (.string y.content) ∧ u1.cell? { block := bb.block, off := bb.off + 4 } = some (.int .i64 y.upd)) → (u2.cell? ⟨w.heap.size, 5, none⟩ = some (.slice (some a) f.ents.length d1) ∧ u2.cell? aa = some (.string x.id) ∧ u2.cell? { block := aa.block, off := aa.off + 1 } = some (.string x.title) ∧ u2.cell? { block := aa.block, off := aa.off + 2 } = some (.string x.link) ∧ u2.cell? { block := aa.block, off := aa.off + 3 } = some (.string x.content) ∧ u2.cell? { block := aa.block, off := aa.off + 4 } = some (.int .i64 x.upd) ∧ u2.cell? bb = some (.string y.id) ∧ u2.cell? { block := bb.block, off := bb.off + 1 } = some (.string y.title) ∧ u2.cell? { block := bb.block, off := bb.off + 2 } = some (.string y.link) ∧ u2.cell? { block := bb.block, off := bb.off + 3 } = some (.string y.content) ∧ u2.cell? { block := bb.block, off := bb.off + 4 } = some (.int .i64 y.upd)) := fun u1 u2 hb h => by
              obtain ⟨z0, z1, z2, z3, z4, z5, z6, z7, z8, z9, z10⟩ := h
              exact ⟨mcell hb z0, mcell hb z1, mcell hb z2, mcell hb z3, mcell hb z4, mcell hb z5, mcell hb z6, mcell hb z7, mcell hb z8, mcell hb z9, mcell hb z10⟩
            clear a0 a1 a2 a3 a4 y0 y1 y2 y3 y4 e5d hb
            rw [show errZ true = 0 from rfl] at cE
            rw [Bool.true_and] at hR
            generalize cmpE y x = ce at *
            by_cases hce : ce < 0
            · rw [decide_eq_true hce, Bool.true_and] at hR
              have HRI := Lib.hid (show R = errZ (!(((f.ents.take (k + 1)).drop 0).any fun e => decide (e.id = x.id)) && okEs (f.ents.take (k + 1 + 1)) (f.ents.drop (k + 1 + 1))) from hR)
              have hce2 : ¬ 0 ≤ ce := by omega
              clear hR
              go_wp2
              first
                | (go_region_held3 (fun w' => w'.cell? ⟨w.heap.size, 5, none⟩ = some (.slice (some a) f.ents.length d1) ∧ w'.cell? aa = some (.string x.id) ∧ w'.cell? { block := aa.block, off := aa.off + 1 } = some (.string x.title) ∧ w'.cell? { block := aa.block, off := aa.off + 2 } = some (.string x.link) ∧ w'.cell? { block := aa.block, off := aa.off + 3 } = some (.string x.content) ∧ w'.cell? { block := aa.block, off := aa.off + 4 } = some (.int .i64 x.upd) ∧ w'.cell? bb = some (.string y.id) ∧ w'.cell? { block := bb.block, off := bb.off + 1 } = some (.string y.title) ∧ w'.cell? { block := bb.block, off := bb.off + 2 } = some (.string y.link) ∧ w'.cell? { block := bb.block, off := bb.off + 3 } = some (.string y.content) ∧ w'.cell? { block := bb.block, off := bb.off + 4 } = some (.int .i64 y.upd)) (first | with_reducible exact S0 | with_reducible exact S6 | with_reducible exact S7) (first | (go_at_call 41; with_reducible refine (cC _).mono ?_; rintro e w7 ⟨rfl, b7⟩; have S7 := hSB _ _ b7 S6) | (go_at_call 13; with_reducible refine (cE _).mono ?_; rintro e w6 ⟨rfl, b6⟩; have S6 := hSB _ _ b6 S0)))
                | fail
              have HBQ := Lib.hid (HBW.out.trans (((Below.refl wp.heap.size wp).drew.trans (b6.trans (b7.mono b6.size))).mono HBW.out.size))
              clear S0 S6 S7 hSB b6 b7
              have X5 := (HX5.out.below HBQ.out).2.2.2.2.2
              have X0 := (HE5.out.below HBQ.out (k + 1) hlt)
              go_wp2
              go_loopw [5] (fun zz wr => ∃ j : Nat, j ≤ (k + 1) ∧ zz = .int .i64 (j : Int) ∧ R = errZ (!(((f.ents.take (k + 1)).drop j).any fun e => decide (e.id = x.id)) && okEs (f.ents.take ((k + 1) + 1)) (f.ents.drop ((k + 1) + 1))) ∧ Below w7.heap.size w7 wr) (fun zz _ => (k + 1) - (RowKit.intOf zz).toNat)
              case atStart => exact ⟨0, Nat.zero_le _, rfl, HRI.out, Below.refl _ _⟩
              case round =>
                clear HRI
                obtain ⟨j, hj, rfl, hRj, hbj⟩ := hrel
                have hbk := Lib.hid hbj
                have HBJ := Lib.hid (HBQ.out.trans (hbj.mono HBQ.out.size))
                clear hbj
                by_cases hjl : j < (k + 1)
                · have hjz : (j : Int) < ((k : Int) + 1) := by omega
                  have hjn : (j : Int) < (f.ents.length : Int) := by omega
                  have e5j := (HX5.out.below HBJ.out).2.2.2.2.2
                  obtain ⟨a2, ha2, c0, -⟩ := HE5.out.below HBJ.out j (by omega)
                  obtain ⟨a3, ha3, x0, -⟩ := HE5.out.below HBJ.out (k + 1) hlt
                  cases ha2
                  cases ha3
                  rw [hx, haa] at x0
                  rw [any_at f.ents x.id (k + 1) j (by omega) hjl] at hRj
                  obtain ⟨y2, hy2⟩ : ∃ y, f.ents[j] = y := ⟨_, rfl⟩
                  rw [hy2] at c0 hRj
                  obtain ⟨cc, hcc⟩ : ∃ cc, a.add (j * 5) = cc := ⟨_, rfl⟩
                  rw [hcc] at c0
                  clear hy2 X5 X0
                  by_cases hq : y2.id = x.id
                  · rw [decide_eq_true hq] at hRj
                    rw [hq] at c0
                    have HRR := Lib.hid hRj
                    clear hRj hq
                    go_wp2
                    go_quiet (fail)
                    go_wp2
                    go_ret
                    exact ⟨mretI HRR.out.symm, mdrewN (HB5.out.trans (HBJ.out.mono HB5.out.size)) _⟩
                  · rw [decide_eq_false hq] at hRj
                    obtain ⟨n1, n2⟩ := mstr_ne hq
                    have HRR := Lib.hid hRj
                    clear hRj hq
                    go_wp2
                    go_quiet (fail)
                    go_wp2
                    go_roundw
                    case rel => exact ⟨j + 1, by omega, by go_num, HRR.out, mdrewN hbk.out _⟩
                    case measure => simp [RowKit.intOf]; omega
                · obtain rfl : j = (k + 1) := by omega
                  have hjz : ¬ ((k : Int) + 1) < ((k : Int) + 1) := by omega
                  rw [List.drop_eq_nil_of_le (by rw [List.length_take]; omega)] at hRj
                  have HRR := Lib.hid (show R = errZ (okEs (f.ents.take ((k + 1) + 1)) (f.ents.drop ((k + 1) + 1))) from hRj)
                  clear hRj X5 X0
                  go_wp2
                  go_roundw
                  case rel => exact ⟨(k + 1) + 1, by omega, by go_num, HRR.out, HBJ.out⟩
                  case measure => simp [RowKit.intOf]; omega
            · rw [decide_eq_false hce, Bool.false_and] at hR
              have hce2 : 0 ≤ ce := by omega
              have HRR := Lib.hid hR
              clear hR
              go_wp2
              first
                | (go_region_held3 (fun w' => w'.cell? ⟨w.heap.size, 5, none⟩ = some (.slice (some a) f.ents.length d1) ∧ w'.cell? aa = some (.string x.id) ∧ w'.cell? { block := aa.block, off := aa.off + 1 } = some (.string x.title) ∧ w'.cell? { block := aa.block, off := aa.off + 2 } = some (.string x.link) ∧ w'.cell? { block := aa.block, off := aa.off + 3 } = some (.string x.content) ∧ w'.cell? { block := aa.block, off := aa.off + 4 } = some (.int .i64 x.upd) ∧ w'.cell? bb = some (.string y.id) ∧ w'.cell? { block := bb.block, off := bb.off + 1 } = some (.string y.title) ∧ w'.cell? { block := bb.block, off := bb.off + 2 } = some (.string y.link) ∧ w'.cell? { block := bb.block, off := bb.off + 3 } = some (.string y.content) ∧ w'.cell? { block := bb.block, off := bb.off + 4 } = some (.int .i64 y.upd)) (first | with_reducible exact S0 | with_reducible exact S6 | with_reducible exact S7) (first | (go_at_call 41; with_reducible refine (cC _).mono ?_; rintro e w7 ⟨rfl, b7⟩; have S7 := hSB _ _ b7 S6) | (go_at_call 13; with_reducible refine (cE _).mono ?_; rintro e w6 ⟨rfl, b6⟩; have S6 := hSB _ _ b6 S0)))
                | fail
              all_goals
                go_wp2
                go_ret
                exact ⟨mretI HRR.out.symm, HB5.out.trans ((HBW.out.trans (((Below.refl _ _).drew.trans (b6.trans (b7.mono b6.size))).mono HBW.out.size)).mono HB5.out.size)⟩
        · obtain rfl : i = f.ents.length := by omega
          have hiz : ¬ (f.ents.length : Int) < (f.ents.length : Int) := by omega
          rw [List.drop_length, show okEs (f.ents.take f.ents.length) [] = true from rfl] at hR
          have HBB := Lib.hid hb
          have HRR := Lib.hid hR
          clear hR hb
          go_wp2
          go_ret
          exact ⟨mretI HRR.out.symm, HB5.out.trans (HBB.out.mono HB5.out.size)⟩
end Go.Proofs.YtbfalppeifkjdaaGreatDoor
end
section
namespace Go.Proofs.YtbfalppeifkjdaaGreatDoor
open Go.RowKit
set_option maxRecDepth 100000 in
set_option maxHeartbeats 16000000 in
theorem mref_Check (l : List FeedD) (p : Option Addr) (c : Nat) (w : World) (hl : FeedsAt w p l) (hz : ASz l) : Calls Tryz.prog 22 #[.agg #[.slice p l.length c]] w fun e w' => e = .returned (.int .i64 (errZ (okFs [] l))) ∧ Below w.heap.size w w' := by
  obtain ⟨R, hR⟩ : ∃ R, errZ (okFs [] l) = R := ⟨_, rfl⟩
  rw [hR]
  obtain ⟨W1, hW1⟩ : ∃ W1, W1 = w.alloc (.cells #[.slice p l.length c] 46) := ⟨_, rfl⟩
  have hX : W1.cell? ⟨w.heap.size, 0, none⟩ = some (.slice p l.length c) := by
    rw [hW1]
    exact cell_of_row _ _ 0 _ _ _ (heap_alloc_new w (.cells #[.slice p l.length c] 46))
  have hB : Below w.heap.size w W1 := by rw [hW1]; exact (Below.refl _ _).alloc (Nat.le_refl _) _
  have HX := Lib.hid hX
  have HB5 := Lib.hid hB
  have HL := Lib.hid (hl.below hB)
  have HSZ := Lib.hid hz
  have HRE := Lib.hid (show R = errZ (okFs (l.take 0) (l.drop 0)) from hR.symm)
  have hel : (l.length : Int) ≤ 100000000 := by have := hz.flen; omega
  clear hB hR hl hz
  go_enter Tryz.func22, Tryz.ntmps22
  go_upto_region 1 with fail
  simp only [← hW1]
  clear hW1
  go_wp2
  go_loopw [3] (fun zz wr => ∃ i : Nat, i ≤ l.length ∧ zz = .int .i64 (i : Int) ∧ R = errZ (okFs (l.take i) (l.drop i)) ∧ Below W1.heap.size W1 wr) (fun zz _ => l.length - (RowKit.intOf zz).toNat)
  case atStart => exact ⟨0, Nat.zero_le _, rfl, HRE.out, Below.refl _ _⟩
  case round =>
    clear HRE hX
    obtain ⟨i, hi, rfl, hR, hb⟩ := hrel
    obtain ⟨wp, rfl⟩ : ∃ wp, wp = wr := ⟨_, rfl⟩
    have e5 := mcell hb HX.out
    by_cases hlt : i < l.length
    · have hiz : (i : Int) < (l.length : Int) := by omega
      obtain ⟨a, p1, c1, q1, d1, rfl, ⟨a0, a1, a2, a3, a4, a5⟩, hp1, he1⟩ := HL.out.below hb i hlt
      rw [okFs_at l i hlt] at hR
      obtain ⟨x, hx⟩ : ∃ x, l[i] = x := ⟨_, rfl⟩
      have hxs := HSZ.out.feeds x (by rw [← hx]; exact List.getElem_mem _)
      rw [hx] at a0 a1 a2 a3 a4 a5 hp1 he1 hR
      have cE := mref_CheckFeed x _ wp.drew ⟨p1, c1, q1, d1, rfl, hp1, he1⟩ hxs
      obtain ⟨aa, haa⟩ : ∃ aa, a.add (i * 6) = aa := ⟨_, rfl⟩
      rw [haa] at a0 a1 a2 a3 a4 a5
      simp only [Addr.add, Nat.reduceEqDiff, ↓reduceIte] at a1 a2 a3 a4 a5
      generalize okF x = ox at *
      have HBW := Lib.hid hb
      cases ox
      case false =>
        have S0 : wp.drew.cell? ⟨w.heap.size, 0, none⟩ = some (.slice (some a) l.length c) ∧ wp.drew.cell? aa = some (.slice p1 x.path.length c1) ∧ wp.drew.cell? { block := aa.block, off := aa.off + 1 } = some (.string x.id) ∧ wp.drew.cell? { block := aa.block, off := aa.off + 2 } = some (.string x.title) ∧ wp.drew.cell? { block := aa.block, off := aa.off + 3 } = some (.string x.link) ∧ wp.drew.cell? { block := aa.block, off := aa.off + 4 } = some (.int .i64 x.upd) ∧ wp.drew.cell? { block := aa.block, off := aa.off + 5 } = some (.slice q1 x.ents.length d1) := ⟨e5, a0, a1, a2, a3, a4, a5⟩
        have hSB : ∀ u1 u2 : World, Below u1.heap.size u1 u2 → (u1.cell? ⟨w.heap.size, 0, none⟩ = some (.slice (some a) l.length c) ∧ u1.cell? aa = some (.slice p1 x.path.length c1) ∧ u1.cell? { block := aa.block, off := aa.off + 1 } = some (.string x.id) ∧ u1.cell? { block := aa.block, off := aa.off + 2 } = some (.string x.title) ∧ u1.cell? { block := aa.block, off := aa.off + 3 } = some (.string x.link) ∧ u1.cell? { block := aa.block, off := aa.off + 4 } = some (.int .i64 x.upd) ∧ u1.cell? { block := aa.block, off := aa.off + 5 } = some (.slice q1 x.ents.length d1)) → (u2.cell? ⟨w.heap.size, 0, none⟩ = some (.slice (some a) l.length c) ∧ u2.cell? aa = some (.slice p1 x.path.length c1) ∧ u2.cell? { block := aa.block, off := aa.off + 1 } = some (.string x.id) ∧ u2.cell? { block := aa.block, off := aa.off + 2 } = some (.string x.title) ∧ u2.cell? { block := aa.block, off := aa.off + 3 } = some (.string x.link) ∧ u2.cell? { block := aa.block, off := aa.off + 4 } = some (.int .i64 x.upd) ∧ u2.cell? { block := aa.block, off := aa.off + 5 } = some (.slice q1 x.ents.length d1)) := fun u1 u2 hb h => by
          obtain ⟨z0, z1, z2, z3, z4, z5, z6⟩ := h
          exact ⟨mcell hb z0, mcell hb z1, mcell hb z2, mcell hb z3, mcell hb z4, mcell hb z5, mcell hb z6⟩
        clear a0 a1 a2 a3 a4 a5 hb hp1 he1
        have HRR := Lib.hid hR
        clear hR
        rw [show errZ false = 22 from rfl] at cE
        go_wp2
        refine wp_region_late (S := fun w' => w'.cell? ⟨w.heap.size, 0, none⟩ = some (.slice (some a) l.length c) ∧ w'.cell? aa = some (.slice p1 x.path.length c1) ∧ w'.cell? { block := aa.block, off := aa.off + 1 } = some (.string x.id) ∧ w'.cell? { block := aa.block, off := aa.off + 2 } = some (.string x.title) ∧ w'.cell? { block := aa.block, off := aa.off + 3 } = some (.string x.link) ∧ w'.cell? { block := aa.block, off := aa.off + 4 } = some (.int .i64 x.upd) ∧ w'.cell? { block := aa.block, off := aa.off + 5 } = some (.slice q1 x.ents.length d1)) (D := []) (by kernel_rfl) ?_
        refine anyL_take (i := 0) (oi := { dst := some 12, op := Go.Op.fieldAddr 46 (Go.Operand.tmp 1) 0, type := 0, pos := "ref.go:48", after := #[], guard := none }) (v := ?_) rfl (by decide) (by kernel_rfl) (by kernel_rfl) (by kernel_rfl) (by kernel_rfl) (fun _ _ _ h => h) (Or.inl ⟨by rfl, ?_⟩) S0 ?_
        rotate_left
        · intro wz hSz
          skip
          go_simp
          (try with_reducible rfl)
        try simp only [Act.put, List.setIfInBounds_toArray, List.set_cons_zero, List.set_cons_succ]
        refine anyL_take (i := 1) (oi := { dst := some 13, op := Go.Op.load 37 (Go.Operand.tmp 12), type := 37, pos := "ref.go:48", after := #[{ on := 0, ground := Go.Ground.data }], guard := none }) (v := ?_) rfl (by decide) (by kernel_rfl) (by kernel_rfl) (by kernel_rfl) (by kernel_rfl) (fun _ _ _ h => h) (Or.inl ⟨by rfl, ?_⟩) S0 ?_
        rotate_left
        · intro wz hSz
          obtain ⟨z0, z1, z2, z3, z4, z5, z6⟩ := hSz
          go_simp
          (try with_reducible rfl)
        try simp only [Act.put, List.setIfInBounds_toArray, List.set_cons_zero, List.set_cons_succ]
        refine anyL_take (i := 2) (oi := { dst := some 14, op := Go.Op.move (Go.Operand.tmp 3), type := 3, pos := "ref.go:48", after := #[], guard := none }) (v := ?_) rfl (by decide) (by kernel_rfl) (by kernel_rfl) (by kernel_rfl) (by kernel_rfl) (fun _ _ _ h => h) (Or.inl ⟨by rfl, ?_⟩) S0 ?_
        rotate_left
        · intro wz hSz
          skip
          go_simp
          (try with_reducible rfl)
        try simp only [Act.put, List.setIfInBounds_toArray, List.set_cons_zero, List.set_cons_succ]
        refine anyL_take (i := 3) (oi := { dst := some 15, op := Go.Op.indexAddr 37 (Go.Operand.tmp 13) (Go.Operand.tmp 14), type := 0, pos := "ref.go:48", after := #[{ on := 1, ground := Go.Ground.data }, { on := 2, ground := Go.Ground.data }], guard := none }) (v := ?_) rfl (by decide) (by kernel_rfl) (by kernel_rfl) (by kernel_rfl) (by kernel_rfl) (fun _ _ _ h => h) (Or.inl ⟨by rfl, ?_⟩) S0 ?_
        rotate_left
        · intro wz hSz
          skip
          go_simp
          (try with_reducible rfl)
        try simp only [Act.put, List.setIfInBounds_toArray, List.set_cons_zero, List.set_cons_succ]
        refine anyL_take (i := 4) (oi := { dst := some 16, op := Go.Op.load 35 (Go.Operand.tmp 15), type := 35, pos := "ref.go:48", after := #[{ on := 3, ground := Go.Ground.data }], guard := none }) (v := ?_) rfl (by decide) (by kernel_rfl) (by kernel_rfl) (by kernel_rfl) (by kernel_rfl) (fun _ _ _ h => h) (Or.inl ⟨by rfl, ?_⟩) S0 ?_
        rotate_left
        · intro wz hSz
          obtain ⟨z0, z1, z2, z3, z4, z5, z6⟩ := hSz
          go_simp
          (try with_reducible rfl)
        try simp only [Act.put, List.setIfInBounds_toArray, List.set_cons_zero, List.set_cons_succ]
        refine anyL_ready (rs := [5]) (by kernel_rfl) (by simp) ?_
        refine AllL.cons (o := { dst := some 17, op := Go.Op.call { callee := Go.Callee.value (Go.Operand.func 18), args := #[Go.Operand.tmp 16], argTypes := #[35] }, type := 3, pos := "ref.go:48", after := #[{ on := 4, ground := Go.Ground.data }], guard := none }) rfl (fun K' hK => ?_) AllL.nil
        rw [if_pos (by rfl)]
        go_simp
        go_at_call 18
        refine cE.mono ?_
        rintro e w6 ⟨rfl, b6⟩
        have S6 := hSB _ _ b6 S0
        refine hK _ _ S6 ?_
        clear hK K'
        try simp only [Act.put, List.setIfInBounds_toArray, List.set_cons_zero, List.set_cons_succ]
        refine anyL_take (i := 6) (oi := { dst := some 18, op := Go.Op.binOp Go.BinOp.neq 3 (Go.Operand.tmp 17) (Go.Operand.const (Go.Value.int Go.IntKind.i64 0)) 3, type := 4, pos := "ref.go:48", after := #[{ on := 5, ground := Go.Ground.data }], guard := none }) (v := ?_) rfl (by decide) (by kernel_rfl) (by kernel_rfl) (by kernel_rfl) (by kernel_rfl) (fun _ _ _ h => h) (Or.inl ⟨by rfl, ?_⟩) S6 ?_
        rotate_left
        · intro wz hSz
          skip
          go_simp
          (try with_reducible rfl)
        try simp only [Act.put, List.setIfInBounds_toArray, List.set_cons_zero, List.set_cons_succ]
        refine anyL_take (i := 7) (oi := { dst := some 19, op := Go.Op.move (Go.Operand.tmp 18), type := 4, pos := "ref.go:48", after := #[{ on := 6, ground := Go.Ground.data }, { on := 5, ground := Go.Ground.chain }], guard := none }) (v := ?_) rfl (by decide) (by kernel_rfl) (by kernel_rfl) (by kernel_rfl) (by kernel_rfl) (fun _ _ _ h => h) (Or.inl ⟨by rfl, ?_⟩) S6 ?_
        rotate_left
        · intro wz hSz
          skip
          go_simp
          (try with_reducible rfl)
        try simp only [Act.put, List.setIfInBounds_toArray, List.set_cons_zero, List.set_cons_succ]
        refine anyL_take (i := 8) (oi := { dst := some 20, op := Go.Op.move (Go.Operand.tmp 3), type := 3, pos := "ref.go:48", after := #[{ on := 7, ground := Go.Ground.guard }], guard := some (7, false) }) (v := undef) rfl (by decide) (by kernel_rfl) (by kernel_rfl) (by kernel_rfl) (by kernel_rfl) (fun _ _ _ h => h) (Or.inr ⟨by rfl, rfl⟩) S6 ?_
        try simp only [Act.put, List.setIfInBounds_toArray, List.set_cons_zero, List.set_cons_succ]
        refine anyL_take (i := 9) (oi := { dst := some 21, op := Go.Op.binOp Go.BinOp.gtr 3 (Go.Operand.tmp 20) (Go.Operand.const (Go.Value.int Go.IntKind.i64 0)) 3, type := 4, pos := "ref.go:48", after := #[{ on := 8, ground := Go.Ground.data }, { on := 7, ground := Go.Ground.guard }], guard := some (7, false) }) (v := undef) rfl (by decide) (by kernel_rfl) (by kernel_rfl) (by kernel_rfl) (by kernel_rfl) (fun _ _ _ h => h) (Or.inr ⟨by rfl, rfl⟩) S6 ?_
        try simp only [Act.put, List.setIfInBounds_toArray, List.set_cons_zero, List.set_cons_succ]
        refine anyL_take (i := 10) (oi := { dst := some 22, op := Go.Op.move (Go.Operand.tmp 21), type := 4, pos := "ref.go:48", after := #[{ on := 9, ground := Go.Ground.data }, { on := 7, ground := Go.Ground.chain }, { on := 7, ground := Go.Ground.guard }], guard := some (7, false) }) (v := undef) rfl (by decide) (by kernel_rfl) (by kernel_rfl) (by kernel_rfl) (by kernel_rfl) (fun _ _ _ h => h) (Or.inr ⟨by rfl, rfl⟩) S6 ?_
        try simp only [Act.put, List.setIfInBounds_toArray, List.set_cons_zero, List.set_cons_succ]
        refine anyL_take (i := 11) (oi := { dst := some 23, op := Go.Op.fieldAddr 46 (Go.Operand.tmp 1) 0, type := 0, pos := "ref.go:48", after := #[{ on := 10, ground := Go.Ground.guard }], guard := some (10, true) }) (v := undef) rfl (by decide) (by kernel_rfl) (by kernel_rfl) (by kernel_rfl) (by kernel_rfl) (fun _ _ _ h => h) (Or.inr ⟨by rfl, rfl⟩) S6 ?_
        try simp only [Act.put, List.setIfInBounds_toArray, List.set_cons_zero, List.set_cons_succ]
        refine anyL_take (i := 12) (oi := { dst := some 24, op := Go.Op.load 37 (Go.Operand.tmp 23), type := 37, pos := "ref.go:48", after := #[{ on := 11, ground := Go.Ground.data }, { on := 10, ground := Go.Ground.guard }], guard := some (10, true) }) (v := undef) rfl (by decide) (by kernel_rfl) (by kernel_rfl) (by kernel_rfl) (by kernel_rfl) (fun _ _ _ h => h) (Or.inr ⟨by rfl, rfl⟩) S6 ?_
        try simp only [Act.put, List.setIfInBounds_toArray, List.set_cons_zero, List.set_cons_succ]
        refine anyL_take (i := 13) (oi := { dst := some 25, op := Go.Op.move (Go.Operand.tmp 3), type := 3, pos := "ref.go:48", after := #[{ on := 10, ground := Go.Ground.guard }], guard := some (10, true) }) (v := undef) rfl (by decide) (by kernel_rfl) (by kernel_rfl) (by kernel_rfl) (by kernel_rfl) (fun _ _ _ h => h) (Or.inr ⟨by rfl, rfl⟩) S6 ?_
        try simp only [Act.put, List.setIfInBounds_toArray, List.set_cons_zero, List.set_cons_succ]
        refine anyL_take (i := 14) (oi := { dst := some 26, op := Go.Op.binOp Go.BinOp.sub 3 (Go.Operand.tmp 25) (Go.Operand.const (Go.Value.int Go.IntKind.i64 1)) 3, type := 3, pos := "ref.go:48", after := #[{ on := 13, ground := Go.Ground.data }, { on := 10, ground := Go.Ground.guard }], guard := some (10, true) }) (v := undef) rfl (by decide) (by kernel_rfl) (by kernel_rfl) (by kernel_rfl) (by kernel_rfl) (fun _ _ _ h => h) (Or.inr ⟨by rfl, rfl⟩) S6 ?_
        try simp only [Act.put, List.setIfInBounds_toArray, List.set_cons_zero, List.set_cons_succ]
        refine anyL_take (i := 15) (oi := { dst := some 27, op := Go.Op.indexAddr 37 (Go.Operand.tmp 24) (Go.Operand.tmp 26), type := 0, pos := "ref.go:48", after := #[{ on := 12, ground := Go.Ground.data }, { on := 14, ground := Go.Ground.data }, { on := 10, ground := Go.Ground.guard }], guard := some (10, true) }) (v := undef) rfl (by decide) (by kernel_rfl) (by kernel_rfl) (by kernel_rfl) (by kernel_rfl) (fun _ _ _ h => h) (Or.inr ⟨by rfl, rfl⟩) S6 ?_
        try simp only [Act.put, List.setIfInBounds_toArray, List.set_cons_zero, List.set_cons_succ]
        refine anyL_take (i := 16) (oi := { dst := some 28, op := Go.Op.load 35 (Go.Operand.tmp 27), type := 35, pos := "ref.go:48", after := #[{ on := 15, ground := Go.Ground.data }, { on := 10, ground := Go.Ground.guard }], guard := some (10, true) }) (v := undef) rfl (by decide) (by kernel_rfl) (by kernel_rfl) (by kernel_rfl) (by kernel_rfl) (fun _ _ _ h => h) (Or.inr ⟨by rfl, rfl⟩) S6 ?_
        try simp only [Act.put, List.setIfInBounds_toArray, List.set_cons_zero, List.set_cons_succ]
        refine anyL_take (i := 17) (oi := { dst := some 29, op := Go.Op.fieldAddr 46 (Go.Operand.tmp 1) 0, type := 0, pos := "ref.go:48", after := #[{ on := 10, ground := Go.Ground.guard }], guard := some (10, true) }) (v := undef) rfl (by decide) (by kernel_rfl) (by kernel_rfl) (by kernel_rfl) (by kernel_rfl) (fun _ _ _ h => h) (Or.inr ⟨by rfl, rfl⟩) S6 ?_
        try simp only [Act.put, List.setIfInBounds_toArray, List.set_cons_zero, List.set_cons_succ]
        refine anyL_take (i := 18) (oi := { dst := some 30, op := Go.Op.load 37 (Go.Operand.tmp 29), type := 37, pos := "ref.go:48", after := #[{ on := 17, ground := Go.Ground.data }, { on := 10, ground := Go.Ground.guard }], guard := some (10, true) }) (v := undef) rfl (by decide) (by kernel_rfl) (by kernel_rfl) (by kernel_rfl) (by kernel_rfl) (fun _ _ _ h => h) (Or.inr ⟨by rfl, rfl⟩) S6 ?_
        try simp only [Act.put, List.setIfInBounds_toArray, List.set_cons_zero, List.set_cons_succ]
        refine anyL_take (i := 19) (oi := { dst := some 31, op := Go.Op.move (Go.Operand.tmp 3), type := 3, pos := "ref.go:48", after := #[{ on := 10, ground := Go.Ground.guard }], guard := some (10, true) }) (v := undef) rfl (by decide) (by kernel_rfl) (by kernel_rfl) (by kernel_rfl) (by kernel_rfl) (fun _ _ _ h => h) (Or.inr ⟨by rfl, rfl⟩) S6 ?_
        try simp only [Act.put, List.setIfInBounds_toArray, List.set_cons_zero, List.set_cons_succ]
        refine anyL_take (i := 20) (oi := { dst := some 32, op := Go.Op.indexAddr 37 (Go.Operand.tmp 30) (Go.Operand.tmp 31), type := 0, pos := "ref.go:48", after := #[{ on := 18, ground := Go.Ground.data }, { on := 19, ground := Go.Ground.data }, { on := 10, ground := Go.Ground.guard }], guard := some (10, true) }) (v := undef) rfl (by decide) (by kernel_rfl) (by kernel_rfl) (by kernel_rfl) (by kernel_rfl) (fun _ _ _ h => h) (Or.inr ⟨by rfl, rfl⟩) S6 ?_
        try simp only [Act.put, List.setIfInBounds_toArray, List.set_cons_zero, List.set_cons_succ]
        refine anyL_take (i := 21) (oi := { dst := some 33, op := Go.Op.load 35 (Go.Operand.tmp 32), type := 35, pos := "ref.go:48", after := #[{ on := 20, ground := Go.Ground.data }, { on := 10, ground := Go.Ground.guard }], guard := some (10, true) }) (v := undef) rfl (by decide) (by kernel_rfl) (by kernel_rfl) (by kernel_rfl) (by kernel_rfl) (fun _ _ _ h => h) (Or.inr ⟨by rfl, rfl⟩) S6 ?_
        try simp only [Act.put, List.setIfInBounds_toArray, List.set_cons_zero, List.set_cons_succ]
        refine anyL_take (i := 22) (oi := { dst := some 34, op := Go.Op.call { callee := Go.Callee.value (Go.Operand.func 45), args := #[Go.Operand.tmp 28, Go.Operand.tmp 33], argTypes := #[35, 35] }, type := 3, pos := "ref.go:48", after := #[{ on := 16, ground := Go.Ground.data }, { on := 21, ground := Go.Ground.data }, { on := 10, ground := Go.Ground.chain }, { on := 10, ground := Go.Ground.guard }], guard := some (10, true) }) (v := undef) rfl (by decide) (by kernel_rfl) (by kernel_rfl) (by kernel_rfl) (by kernel_rfl) (fun _ _ _ h => h) (Or.inr ⟨by rfl, rfl⟩) S6 ?_
        try simp only [Act.put, List.setIfInBounds_toArray, List.set_cons_zero, List.set_cons_succ]
        refine anyL_take (i := 23) (oi := { dst := some 35, op := Go.Op.binOp Go.BinOp.geq 3 (Go.Operand.tmp 34) (Go.Operand.const (Go.Value.int Go.IntKind.i64 0)) 3, type := 4, pos := "ref.go:48", after := #[{ on := 22, ground := Go.Ground.data }, { on := 10, ground := Go.Ground.guard }], guard := some (10, true) }) (v := undef) rfl (by decide) (by kernel_rfl) (by kernel_rfl) (by kernel_rfl) (by kernel_rfl) (fun _ _ _ h => h) (Or.inr ⟨by rfl, rfl⟩) S6 ?_
        try simp only [Act.put, List.setIfInBounds_toArray, List.set_cons_zero, List.set_cons_succ]
        refine anyL_take (i := 24) (oi := { dst := some 36, op := Go.Op.pick (Go.Operand.tmp 22) (Go.Operand.tmp 35) (Go.Operand.const (Go.Value.bool false)), type := 4, pos := "ref.go:48", after := #[{ on := 10, ground := Go.Ground.data }, { on := 23, ground := Go.Ground.data }, { on := 7, ground := Go.Ground.guard }], guard := some (7, false) }) (v := undef) rfl (by decide) (by kernel_rfl) (by kernel_rfl) (by kernel_rfl) (by kernel_rfl) (fun _ _ _ h => h) (Or.inr ⟨by rfl, rfl⟩) S6 ?_
        try simp only [Act.put, List.setIfInBounds_toArray, List.set_cons_zero, List.set_cons_succ]
        refine anyL_take (i := 25) (oi := { dst := some 37, op := Go.Op.pick (Go.Operand.tmp 19) (Go.Operand.const (Go.Value.bool true)) (Go.Operand.tmp 36), type := 4, pos := "ref.go:48", after := #[{ on := 7, ground := Go.Ground.data }, { on := 24, ground := Go.Ground.data }], guard := none }) (v := ?_) rfl (by decide) (by kernel_rfl) (by kernel_rfl) (by kernel_rfl) (by kernel_rfl) (fun _ _ _ h => h) (Or.inl ⟨by rfl, ?_⟩) S6 ?_
        rotate_left
        · intro wz hSz
          skip
          go_simp
          (try with_reducible rfl)
        try simp only [Act.put, List.setIfInBounds_toArray, List.set_cons_zero, List.set_cons_succ]
        refine anyL_done (by kernel_rfl) ?_ _
        all_goals
          go_wp2
          go_ret
          exact ⟨mretI HRR.out.symm, HB5.out.trans ((HBW.out.trans (((Below.refl _ _).drew.trans b6).mono HBW.out.size)).mono HB5.out.size)⟩
      rcases (show i = 0 ∨ ∃ k, i = k + 1 from by cases i with | zero => exact .inl rfl | succ k => exact .inr ⟨k, rfl⟩) with rfl | ⟨k, rfl⟩
      · rw [lastFk_zero, Bool.true_and] at hR
        have S0 : wp.drew.cell? ⟨w.heap.size, 0, none⟩ = some (.slice (some a) l.length c) ∧ wp.drew.cell? aa = some (.slice p1 x.path.length c1) ∧ wp.drew.cell? { block := aa.block, off := aa.off + 1 } = some (.string x.id) ∧ wp.drew.cell? { block := aa.block, off := aa.off + 2 } = some (.string x.title) ∧ wp.drew.cell? { block := aa.block, off := aa.off + 3 } = some (.string x.link) ∧ wp.drew.cell? { block := aa.block, off := aa.off + 4 } = some (.int .i64 x.upd) ∧ wp.drew.cell? { block := aa.block, off := aa.off + 5 } = some (.slice q1 x.ents.length d1) := ⟨e5, a0, a1, a2, a3, a4, a5⟩
        have hSB : ∀ u1 u2 : World, Below u1.heap.size u1 u2 → (u1.cell? ⟨w.heap.size, 0, none⟩ = some (.slice (some a) l.length c) ∧ u1.cell? aa = some (.slice p1 x.path.length c1) ∧ u1.cell? { block := aa.block, off := aa.off + 1 } = some (.string x.id) ∧ u1.cell? { block := aa.block, off := aa.off + 2 } = some (.string x.title) ∧ u1.cell? { block := aa.block, off := aa.off + 3 } = some (.string x.link) ∧ u1.cell? { block := aa.block, off := aa.off + 4 } = some (.int .i64 x.upd) ∧ u1.cell? { block := aa.block, off := aa.off + 5 } = some (.slice q1 x.ents.length d1)) → (u2.cell? ⟨w.heap.size, 0, none⟩ = some (.slice (some a) l.length c) ∧ u2.cell? aa = some (.slice p1 x.path.length c1) ∧ u2.cell? { block := aa.block, off := aa.off + 1 } = some (.string x.id) ∧ u2.cell? { block := aa.block, off := aa.off + 2 } = some (.string x.title) ∧ u2.cell? { block := aa.block, off := aa.off + 3 } = some (.string x.link) ∧ u2.cell? { block := aa.block, off := aa.off + 4 } = some (.int .i64 x.upd) ∧ u2.cell? { block := aa.block, off := aa.off + 5 } = some (.slice q1 x.ents.length d1)) := fun u1 u2 hb h => by
          obtain ⟨z0, z1, z2, z3, z4, z5, z6⟩ := h
          exact ⟨mcell hb z0, mcell hb z1, mcell hb z2, mcell hb z3, mcell hb z4, mcell hb z5, mcell hb z6⟩
        clear a0 a1 a2 a3 a4 a5 hb hp1 he1
        rw [show errZ true = 0 from rfl] at cE
        rw [Bool.true_and] at hR
        have HRI := Lib.hid (show R = errZ (!(((l.take 0).drop 0).any fun e => decide (e.id = x.id)) && okFs (l.take (0 + 1)) (l.drop (0 + 1))) from hR)
        clear hR
        go_wp2
        refine wp_region_late (S := fun w' => w'.cell? ⟨w.heap.size, 0, none⟩ = some (.slice (some a) l.length c) ∧ w'.cell? aa = some (.slice p1 x.path.length c1) ∧ w'.cell? { block := aa.block, off := aa.off + 1 } = some (.string x.id) ∧ w'.cell? { block := aa.block, off := aa.off + 2 } = some (.string x.title) ∧ w'.cell? { block := aa.block, off := aa.off + 3 } = some (.string x.link) ∧ w'.cell? { block := aa.block, off := aa.off + 4 } = some (.int .i64 x.upd) ∧ w'.cell? { block := aa.block, off := aa.off + 5 } = some (.slice q1 x.ents.length d1)) (D := []) (by kernel_rfl) ?_
        refine anyL_take (i := 0) (oi := { dst := some 12, op := Go.Op.fieldAddr 46 (Go.Operand.tmp 1) 0, type := 0, pos := "ref.go:48", after := #[], guard := none }) (v := ?_) rfl (by decide) (by kernel_rfl) (by kernel_rfl) (by kernel_rfl) (by kernel_rfl) (fun _ _ _ h => h) (Or.inl ⟨by rfl, ?_⟩) S0 ?_
        rotate_left
        · intro wz hSz
          skip
          go_simp
          (try with_reducible rfl)
        try simp only [Act.put, List.setIfInBounds_toArray, List.set_cons_zero, List.set_cons_succ]
        refine anyL_take (i := 1) (oi := { dst := some 13, op := Go.Op.load 37 (Go.Operand.tmp 12), type := 37, pos := "ref.go:48", after := #[{ on := 0, ground := Go.Ground.data }], guard := none }) (v := ?_) rfl (by decide) (by kernel_rfl) (by kernel_rfl) (by kernel_rfl) (by kernel_rfl) (fun _ _ _ h => h) (Or.inl ⟨by rfl, ?_⟩) S0 ?_
        rotate_left
        · intro wz hSz
          obtain ⟨z0, z1, z2, z3, z4, z5, z6⟩ := hSz
          go_simp
          (try with_reducible rfl)
        try simp only [Act.put, List.setIfInBounds_toArray, List.set_cons_zero, List.set_cons_succ]
        refine anyL_take (i := 2) (oi := { dst := some 14, op := Go.Op.move (Go.Operand.tmp 3), type := 3, pos := "ref.go:48", after := #[], guard := none }) (v := ?_) rfl (by decide) (by kernel_rfl) (by kernel_rfl) (by kernel_rfl) (by kernel_rfl) (fun _ _ _ h => h) (Or.inl ⟨by rfl, ?_⟩) S0 ?_
        rotate_left
        · intro wz hSz
          skip
          go_simp
          (try with_reducible rfl)
        try simp only [Act.put, List.setIfInBounds_toArray, List.set_cons_zero, List.set_cons_succ]
        refine anyL_take (i := 3) (oi := { dst := some 15, op := Go.Op.indexAddr 37 (Go.Operand.tmp 13) (Go.Operand.tmp 14), type := 0, pos := "ref.go:48", after := #[{ on := 1, ground := Go.Ground.data }, { on := 2, ground := Go.Ground.data }], guard := none }) (v := ?_) rfl (by decide) (by kernel_rfl) (by kernel_rfl) (by kernel_rfl) (by kernel_rfl) (fun _ _ _ h => h) (Or.inl ⟨by rfl, ?_⟩) S0 ?_
        rotate_left
        · intro wz hSz
          skip
          go_simp
          (try with_reducible rfl)
        try simp only [Act.put, List.setIfInBounds_toArray, List.set_cons_zero, List.set_cons_succ]
        refine anyL_take (i := 4) (oi := { dst := some 16, op := Go.Op.load 35 (Go.Operand.tmp 15), type := 35, pos := "ref.go:48", after := #[{ on := 3, ground := Go.Ground.data }], guard := none }) (v := ?_) rfl (by decide) (by kernel_rfl) (by kernel_rfl) (by kernel_rfl) (by kernel_rfl) (fun _ _ _ h => h) (Or.inl ⟨by rfl, ?_⟩) S0 ?_
        rotate_left
        · intro wz hSz
          obtain ⟨z0, z1, z2, z3, z4, z5, z6⟩ := hSz
          go_simp
          (try with_reducible rfl)
        try simp only [Act.put, List.setIfInBounds_toArray, List.set_cons_zero, List.set_cons_succ]
        refine anyL_ready (rs := [5]) (by kernel_rfl) (by simp) ?_
        refine AllL.cons (o := { dst := some 17, op := Go.Op.call { callee := Go.Callee.value (Go.Operand.func 18), args := #[Go.Operand.tmp 16], argTypes := #[35] }, type := 3, pos := "ref.go:48", after := #[{ on := 4, ground := Go.Ground.data }], guard := none }) rfl (fun K' hK => ?_) AllL.nil
        rw [if_pos (by rfl)]
        go_simp
        go_at_call 18
        refine cE.mono ?_
        rintro e w6 ⟨rfl, b6⟩
        have S6 := hSB _ _ b6 S0
        refine hK _ _ S6 ?_
        clear hK K'
        try simp only [Act.put, List.setIfInBounds_toArray, List.set_cons_zero, List.set_cons_succ]
        refine anyL_take (i := 6) (oi := { dst := some 18, op := Go.Op.binOp Go.BinOp.neq 3 (Go.Operand.tmp 17) (Go.Operand.const (Go.Value.int Go.IntKind.i64 0)) 3, type := 4, pos := "ref.go:48", after := #[{ on := 5, ground := Go.Ground.data }], guard := none }) (v := ?_) rfl (by decide) (by kernel_rfl) (by kernel_rfl) (by kernel_rfl) (by kernel_rfl) (fun _ _ _ h => h) (Or.inl ⟨by rfl, ?_⟩) S6 ?_
        rotate_left
        · intro wz hSz
          skip
          go_simp
          (try with_reducible rfl)
        try simp only [Act.put, List.setIfInBounds_toArray, List.set_cons_zero, List.set_cons_succ]
        refine anyL_take (i := 7) (oi := { dst := some 19, op := Go.Op.move (Go.Operand.tmp 18), type := 4, pos := "ref.go:48", after := #[{ on := 6, ground := Go.Ground.data }, { on := 5, ground := Go.Ground.chain }], guard := none }) (v := ?_) rfl (by decide) (by kernel_rfl) (by kernel_rfl) (by kernel_rfl) (by kernel_rfl) (fun _ _ _ h => h) (Or.inl ⟨by rfl, ?_⟩) S6 ?_
        rotate_left
        · intro wz hSz
          skip
          go_simp
          (try with_reducible rfl)
        try simp only [Act.put, List.setIfInBounds_toArray, List.set_cons_zero, List.set_cons_succ]
        refine anyL_take (i := 8) (oi := { dst := some 20, op := Go.Op.move (Go.Operand.tmp 3), type := 3, pos := "ref.go:48", after := #[{ on := 7, ground := Go.Ground.guard }], guard := some (7, false) }) (v := ?_) rfl (by decide) (by kernel_rfl) (by kernel_rfl) (by kernel_rfl) (by kernel_rfl) (fun _ _ _ h => h) (Or.inl ⟨by rfl, ?_⟩) S6 ?_
        rotate_left
        · intro wz hSz
          skip
          go_simp
          (try with_reducible rfl)
        try simp only [Act.put, List.setIfInBounds_toArray, List.set_cons_zero, List.set_cons_succ]
        refine anyL_take (i := 9) (oi := { dst := some 21, op := Go.Op.binOp Go.BinOp.gtr 3 (Go.Operand.tmp 20) (Go.Operand.const (Go.Value.int Go.IntKind.i64 0)) 3, type := 4, pos := "ref.go:48", after := #[{ on := 8, ground := Go.Ground.data }, { on := 7, ground := Go.Ground.guard }], guard := some (7, false) }) (v := ?_) rfl (by decide) (by kernel_rfl) (by kernel_rfl) (by kernel_rfl) (by kernel_rfl) (fun _ _ _ h => h) (Or.inl ⟨by rfl, ?_⟩) S6 ?_
        rotate_left
        · intro wz hSz
          skip
          go_simp
          (try with_reducible rfl)
        try simp only [Act.put, List.setIfInBounds_toArray, List.set_cons_zero, List.set_cons_succ]
        refine anyL_take (i := 10) (oi := { dst := some 22, op := Go.Op.move (Go.Operand.tmp 21), type := 4, pos := "ref.go:48", after := #[{ on := 9, ground := Go.Ground.data }, { on := 7, ground := Go.Ground.chain }, { on := 7, ground := Go.Ground.guard }], guard := some (7, false) }) (v := ?_) rfl (by decide) (by kernel_rfl) (by kernel_rfl) (by kernel_rfl) (by kernel_rfl) (fun _ _ _ h => h) (Or.inl ⟨by rfl, ?_⟩) S6 ?_
        rotate_left
        · intro wz hSz
          skip
          go_simp
          (try with_reducible rfl)
        try simp only [Act.put, List.setIfInBounds_toArray, List.set_cons_zero, List.set_cons_succ]
        refine anyL_take (i := 11) (oi := { dst := some 23, op := Go.Op.fieldAddr 46 (Go.Operand.tmp 1) 0, type := 0, pos := "ref.go:48", after := #[{ on := 10, ground := Go.Ground.guard }], guard := some (10, true) }) (v := undef) rfl (by decide) (by kernel_rfl) (by kernel_rfl) (by kernel_rfl) (by kernel_rfl) (fun _ _ _ h => h) (Or.inr ⟨by rfl, rfl⟩) S6 ?_
        try simp only [Act.put, List.setIfInBounds_toArray, List.set_cons_zero, List.set_cons_succ]
        refine anyL_take (i := 12) (oi := { dst := some 24, op := Go.Op.load 37 (Go.Operand.tmp 23), type := 37, pos := "ref.go:48", after := #[{ on := 11, ground := Go.Ground.data }, { on := 10, ground := Go.Ground.guard }], guard := some (10, true) }) (v := undef) rfl (by decide) (by kernel_rfl) (by kernel_rfl) (by kernel_rfl) (by kernel_rfl) (fun _ _ _ h => h) (Or.inr ⟨by rfl, rfl⟩) S6 ?_
        try simp only [Act.put, List.setIfInBounds_toArray, List.set_cons_zero, List.set_cons_succ]
        refine anyL_take (i := 13) (oi := { dst := some 25, op := Go.Op.move (Go.Operand.tmp 3), type := 3, pos := "ref.go:48", after := #[{ on := 10, ground := Go.Ground.guard }], guard := some (10, true) }) (v := undef) rfl (by decide) (by kernel_rfl) (by kernel_rfl) (by kernel_rfl) (by kernel_rfl) (fun _ _ _ h => h) (Or.inr ⟨by rfl, rfl⟩) S6 ?_
        try simp only [Act.put, List.setIfInBounds_toArray, List.set_cons_zero, List.set_cons_succ]
        refine anyL_take (i := 14) (oi := { dst := some 26, op := Go.Op.binOp Go.BinOp.sub 3 (Go.Operand.tmp 25) (Go.Operand.const (Go.Value.int Go.IntKind.i64 1)) 3, type := 3, pos := "ref.go:48", after := #[{ on := 13, ground := Go.Ground.data }, { on := 10, ground := Go.Ground.guard }], guard := some (10, true) }) (v := undef) rfl (by decide) (by kernel_rfl) (by kernel_rfl) (by kernel_rfl) (by kernel_rfl) (fun _ _ _ h => h) (Or.inr ⟨by rfl, rfl⟩) S6 ?_
        try simp only [Act.put, List.setIfInBounds_toArray, List.set_cons_zero, List.set_cons_succ]
        refine anyL_take (i := 15) (oi := { dst := some 27, op := Go.Op.indexAddr 37 (Go.Operand.tmp 24) (Go.Operand.tmp 26), type := 0, pos := "ref.go:48", after := #[{ on := 12, ground := Go.Ground.data }, { on := 14, ground := Go.Ground.data }, { on := 10, ground := Go.Ground.guard }], guard := some (10, true) }) (v := undef) rfl (by decide) (by kernel_rfl) (by kernel_rfl) (by kernel_rfl) (by kernel_rfl) (fun _ _ _ h => h) (Or.inr ⟨by rfl, rfl⟩) S6 ?_
        try simp only [Act.put, List.setIfInBounds_toArray, List.set_cons_zero, List.set_cons_succ]
        refine anyL_take (i := 16) (oi := { dst := some 28, op := Go.Op.load 35 (Go.Operand.tmp 27), type := 35, pos := "ref.go:48", after := #[{ on := 15, ground := Go.Ground.data }, { on := 10, ground := Go.Ground.guard }], guard := some (10, true) }) (v := undef) rfl (by decide) (by kernel_rfl) (by kernel_rfl) (by kernel_rfl) (by kernel_rfl) (fun _ _ _ h => h) (Or.inr ⟨by rfl, rfl⟩) S6 ?_
        try simp only [Act.put, List.setIfInBounds_toArray, List.set_cons_zero, List.set_cons_succ]
        refine anyL_take (i := 17) (oi := { dst := some 29, op := Go.Op.fieldAddr 46 (Go.Operand.tmp 1) 0, type := 0, pos := "ref.go:48", after := #[{ on := 10, ground := Go.Ground.guard }], guard := some (10, true) }) (v := undef) rfl (by decide) (by kernel_rfl) (by kernel_rfl) (by kernel_rfl) (by kernel_rfl) (fun _ _ _ h => h) (Or.inr ⟨by rfl, rfl⟩) S6 ?_
        try simp only [Act.put, List.setIfInBounds_toArray, List.set_cons_zero, List.set_cons_succ]
        refine anyL_take (i := 18) (oi := { dst := some 30, op := Go.Op.load 37 (Go.Operand.tmp 29), type := 37, pos := "ref.go:48", after := #[{ on := 17, ground := Go.Ground.data }, { on := 10, ground := Go.Ground.guard }], guard := some (10, true) }) (v := undef) rfl (by decide) (by kernel_rfl) (by kernel_rfl) (by kernel_rfl) (by kernel_rfl) (fun _ _ _ h => h) (Or.inr ⟨by rfl, rfl⟩) S6 ?_
        try simp only [Act.put, List.setIfInBounds_toArray, List.set_cons_zero, List.set_cons_succ]
        refine anyL_take (i := 19) (oi := { dst := some 31, op := Go.Op.move (Go.Operand.tmp 3), type := 3, pos := "ref.go:48", after := #[{ on := 10, ground := Go.Ground.guard }], guard := some (10, true) }) (v := undef) rfl (by decide) (by kernel_rfl) (by kernel_rfl) (by kernel_rfl) (by kernel_rfl) (fun _ _ _ h => h) (Or.inr ⟨by rfl, rfl⟩) S6 ?_
        try simp only [Act.put, List.setIfInBounds_toArray, List.set_cons_zero, List.set_cons_succ]
        refine anyL_take (i := 20) (oi := { dst := some 32, op := Go.Op.indexAddr 37 (Go.Operand.tmp 30) (Go.Operand.tmp 31), type := 0, pos := "ref.go:48", after := #[{ on := 18, ground := Go.Ground.data }, { on := 19, ground := Go.Ground.data }, { on := 10, ground := Go.Ground.guard }], guard := some (10, true) }) (v := undef) rfl (by decide) (by kernel_rfl) (by kernel_rfl) (by kernel_rfl) (by kernel_rfl) (fun _ _ _ h => h) (Or.inr ⟨by rfl, rfl⟩) S6 ?_
        try simp only [Act.put, List.setIfInBounds_toArray, List.set_cons_zero, List.set_cons_succ]
        refine anyL_take (i := 21) (oi := { dst := some 33, op := Go.Op.load 35 (Go.Operand.tmp 32), type := 35, pos := "ref.go:48", after := #[{ on := 20, ground := Go.Ground.data }, { on := 10, ground := Go.Ground.guard }], guard := some (10, true) }) (v := undef) rfl (by decide) (by kernel_rfl) (by kernel_rfl) (by kernel_rfl) (by kernel_rfl) (fun _ _ _ h => h) (Or.inr ⟨by rfl, rfl⟩) S6 ?_
        try simp only [Act.put, List.setIfInBounds_toArray, List.set_cons_zero, List.set_cons_succ]
        refine anyL_take (i := 22) (oi := { dst := some 34, op := Go.Op.call { callee := Go.Callee.value (Go.Operand.func 45), args := #[Go.Operand.tmp 28, Go.Operand.tmp 33], argTypes := #[35, 35] }, type := 3, pos := "ref.go:48", after := #[{ on := 16, ground := Go.Ground.data }, { on := 21, ground := Go.Ground.data }, { on := 10, ground := Go.Ground.chain }, { on := 10, ground := Go.Ground.guard }], guard := some (10, true) }) (v := undef) rfl (by decide) (by kernel_rfl) (by kernel_rfl) (by kernel_rfl) (by kernel_rfl) (fun _ _ _ h => h) (Or.inr ⟨by rfl, rfl⟩) S6 ?_
        try simp only [Act.put, List.setIfInBounds_toArray, List.set_cons_zero, List.set_cons_succ]
        refine anyL_take (i := 23) (oi := { dst := some 35, op := Go.Op.binOp Go.BinOp.geq 3 (Go.Operand.tmp 34) (Go.Operand.const (Go.Value.int Go.IntKind.i64 0)) 3, type := 4, pos := "ref.go:48", after := #[{ on := 22, ground := Go.Ground.data }, { on := 10, ground := Go.Ground.guard }], guard := some (10, true) }) (v := undef) rfl (by decide) (by kernel_rfl) (by kernel_rfl) (by kernel_rfl) (by kernel_rfl) (fun _ _ _ h => h) (Or.inr ⟨by rfl, rfl⟩) S6 ?_
        try simp only [Act.put, List.setIfInBounds_toArray, List.set_cons_zero, List.set_cons_succ]
        refine anyL_take (i := 24) (oi := { dst := some 36, op := Go.Op.pick (Go.Operand.tmp 22) (Go.Operand.tmp 35) (Go.Operand.const (Go.Value.bool false)), type := 4, pos := "ref.go:48", after := #[{ on := 10, ground := Go.Ground.data }, { on := 23, ground := Go.Ground.data }, { on := 7, ground := Go.Ground.guard }], guard := some (7, false) }) (v := ?_) rfl (by decide) (by kernel_rfl) (by kernel_rfl) (by kernel_rfl) (by kernel_rfl) (fun _ _ _ h => h) (Or.inl ⟨by rfl, ?_⟩) S6 ?_
        rotate_left
        · intro wz hSz
          skip
          go_simp
          (try with_reducible rfl)
        try simp only [Act.put, List.setIfInBounds_toArray, List.set_cons_zero, List.set_cons_succ]
        refine anyL_take (i := 25) (oi := { dst := some 37, op := Go.Op.pick (Go.Operand.tmp 19) (Go.Operand.const (Go.Value.bool true)) (Go.Operand.tmp 36), type := 4, pos := "ref.go:48", after := #[{ on := 7, ground := Go.Ground.data }, { on := 24, ground := Go.Ground.data }], guard := none }) (v := ?_) rfl (by decide) (by kernel_rfl) (by kernel_rfl) (by kernel_rfl) (by kernel_rfl) (fun _ _ _ h => h) (Or.inl ⟨by rfl, ?_⟩) S6 ?_
        rotate_left
        · intro wz hSz
          skip
          go_simp
          (try with_reducible rfl)
        try simp only [Act.put, List.setIfInBounds_toArray, List.set_cons_zero, List.set_cons_succ]
        refine anyL_done (by kernel_rfl) ?_ _
        have HBQ := Lib.hid (HBW.out.trans (((Below.refl wp.heap.size wp).drew.trans b6).mono HBW.out.size))
        clear S0 S6 hSB b6
        have X5 := HX.out
        have X0 := (HL.out.below HBQ.out 0 hlt)
        go_wp2
        go_loopw [4] (fun zz wr => ∃ j : Nat, j ≤ 0 ∧ zz = .int .i64 (j : Int) ∧ R = errZ (!(((l.take 0).drop j).any fun e => decide (e.id = x.id)) && okFs (l.take (0 + 1)) (l.drop (0 + 1))) ∧ Below w6.heap.size w6 wr) (fun zz _ => 0 - (RowKit.intOf zz).toNat)
        case atStart => exact ⟨0, Nat.zero_le _, rfl, HRI.out, Below.refl _ _⟩
        case round =>
          clear HRI
          obtain ⟨j, hj, rfl, hRj, hbj⟩ := hrel
          have hbk := Lib.hid hbj
          have HBJ := Lib.hid (HBQ.out.trans (hbj.mono HBQ.out.size))
          clear hbj
          by_cases hjl : j < 0
          · have hjz : (j : Int) < (0 : Int) := by omega
            have hjn : (j : Int) < (l.length : Int) := by omega
            have e5j := mcell HBJ.out HX.out
            obtain ⟨a2, _, _, _, _, ha2, ⟨-, c0, -⟩, -, -⟩ := HL.out.below HBJ.out j (by omega)
            obtain ⟨a3, _, _, _, _, ha3, ⟨-, x0, -⟩, -, -⟩ := HL.out.below HBJ.out 0 hlt
            cases ha2
            cases ha3
            rw [hx, haa] at x0
            rw [anyF_at l x.id 0 j (by omega) hjl] at hRj
            obtain ⟨y2, hy2⟩ : ∃ y, l[j] = y := ⟨_, rfl⟩
            rw [hy2] at c0 hRj
            obtain ⟨cc, hcc⟩ : ∃ cc, a.add (j * 6) = cc := ⟨_, rfl⟩
            rw [hcc] at c0
            simp only [Addr.add, Nat.reduceEqDiff, ↓reduceIte] at c0 x0
            clear hy2 X5 X0
            by_cases hq : y2.id = x.id
            · rw [decide_eq_true hq] at hRj
              rw [hq] at c0
              have HRR := Lib.hid hRj
              clear hRj hq
              go_wp2
              go_quiet (fail)
              go_wp2
              go_ret
              exact ⟨mretI HRR.out.symm, mdrewN (HB5.out.trans (HBJ.out.mono HB5.out.size)) _⟩
            · rw [decide_eq_false hq] at hRj
              obtain ⟨n1, n2⟩ := mstr_ne hq
              have HRR := Lib.hid hRj
              clear hRj hq
              go_wp2
              go_quiet (fail)
              go_wp2
              go_roundw
              case rel => exact ⟨j + 1, by omega, by go_num, HRR.out, mdrewN hbk.out _⟩
              case measure => simp [RowKit.intOf]; omega
          · obtain rfl : j = 0 := by omega
            have hjz : ¬ (0 : Int) < (0 : Int) := by omega
            rw [List.drop_eq_nil_of_le (by rw [List.length_take]; omega)] at hRj
            have HRR := Lib.hid (show R = errZ (okFs (l.take (0 + 1)) (l.drop (0 + 1))) from hRj)
            clear hRj X5 X0
            go_wp2
            go_roundw
            case rel => exact ⟨0 + 1, by omega, by go_num, HRR.out, HBJ.out⟩
            case measure => simp [RowKit.intOf]; omega
      · have hkl : k < l.length := by omega
        have hkz : (k : Int) < (l.length : Int) := by omega
        rw [lastFk_succ l k hkl] at hR
        obtain ⟨a6, p2, c2, q2, d2, ha6, ⟨y0, y1, y2, y3, y4, y5⟩, hp2, he2⟩ := HL.out.below hb k hkl
        cases ha6
        obtain ⟨y, hy⟩ : ∃ y, l[k] = y := ⟨_, rfl⟩
        have hys := HSZ.out.feeds y (by rw [← hy]; exact List.getElem_mem _)
        rw [hy] at y0 y1 y2 y3 y4 y5 hp2 he2 hR
        obtain ⟨bb, hbb⟩ : ∃ bb, a.add (k * 6) = bb := ⟨_, rfl⟩
        rw [hbb] at y0 y1 y2 y3 y4 y5
        simp only [Addr.add, Nat.reduceEqDiff, ↓reduceIte] at y1 y2 y3 y4 y5
        have hpd1 : NamAt wp.drew p1 x.path := hp1
        have hpd2 : NamAt wp.drew p2 y.path := hp2
        have hed1 : EntsAt wp.drew q1 x.ents := he1
        have hed2 : EntsAt wp.drew q2 y.ents := he2
        have cC0 := fun (wx : World) (bx : Below wp.drew.heap.size wp.drew wx) => mref_cmpF y x _ _ wx ⟨p2, c2, q2, d2, rfl, hpd2.below bx, hed2.below bx⟩ ⟨p1, c1, q1, d1, rfl, hpd1.below bx, hed1.below bx⟩ hys.plen hxs.plen
        have hk0 : (0 : Int) < (k : Int) + 1 := by omega
        have hk1z : (k : Int) + 1 < (l.length : Int) := by omega
        have hk1n : (0 : Int) ≤ (k : Int) + 1 := by omega
        have hwk : IntKind.i64.wrap ((k : Int) + 1 - 1) = (k : Int) := by rw [show (k : Int) + 1 - 1 = k by omega]; exact wrap_small _ (by omega) (by omega)
        have hwz : (k : Int) + 1 - 1 = k := by omega
        have hwk2 : IntKind.i64.wrap (k : Int) = (k : Int) := wrap_small _ (by omega) (by omega)
        have S0 : wp.drew.cell? ⟨w.heap.size, 0, none⟩ = some (.slice (some a) l.length c) ∧ wp.drew.cell? aa = some (.slice p1 x.path.length c1) ∧ wp.drew.cell? { block := aa.block, off := aa.off + 1 } = some (.string x.id) ∧ wp.drew.cell? { block := aa.block, off := aa.off + 2 } = some (.string x.title) ∧ wp.drew.cell? { block := aa.block, off := aa.off + 3 } = some (.string x.link) ∧ wp.drew.cell? { block := aa.block, off := aa.off + 4 } = some (.int .i64 x.upd) ∧ wp.drew.cell? { block := aa.block, off := aa.off + 5 } = some (.slice q1 x.ents.length d1) ∧ wp.drew.cell? bb = some (.slice p2 y.path.length c2) ∧ wp.drew.cell? { block := bb.block, off := bb.off + 1 } = some (.string y.id) ∧ wp.drew.cell? { block := bb.block, off := bb.off + 2 } = some (.string y.title) ∧ wp.drew.cell? { block := bb.block, off := bb.off + 3 } = some (.string y.link) ∧ wp.drew.cell? { block := bb.block, off := bb.off + 4 } = some (.int .i64 y.upd) ∧ wp.drew.cell? { block := bb.block, off := bb.off + 5 } = some (.slice q2 y.ents.length d2) := ⟨e5, a0, a1, a2, a3, a4, a5, y0, y1, y2, y3, y4, y5⟩
        have hSB : ∀ u1 u2 : World, Below u1.heap.size u1 u2 → (u1.cell? ⟨w.heap.size, 0, none⟩ = some (.slice (some a) l.length c) ∧ u1.cell? aa = some (.slice p1 x.path.length c1) ∧ u1.cell? { block := aa.block, off := aa.off + 1 } = some (.string x.id) ∧ u1.cell? { block := aa.block, off := aa.off + 2 } = some (.string x.title) ∧ u1.cell? { block := aa.block, off := aa.off + 3 } = some (.string x.link) ∧ u1.cell? { block := aa.block, off := aa.off + 4 } = some (.int .i64 x.upd) ∧ u1.cell? { block := aa.block, off := aa.off + 5 } = some (.slice q1 x.ents.length d1) ∧ u1.cell? bb = some (.slice p2 y.path.length c2) ∧ u1.cell? { block := bb.block, off := bb.off + 1 } = some (.string y.id) ∧ u1.cell? { block := bb.block, off := bb.off + 2 } = some (.string y.title) ∧ u1.cell? { block := bb.block, off := bb.off + 3 } = some (.string y.link) ∧ u1.cell? { block := bb.block, off := bb.off + 4 } = some (.int .i64 y.upd) ∧ u1.cell? { block := bb.block, off := bb.off + 5 } = some (.slice q2 y.ents.length d2)) → (u2.cell? ⟨w.heap.size, 0, none⟩ = some (.slice (some a) l.length c) ∧ u2.cell? aa = some (.slice p1 x.path.length c1) ∧ u2.cell? { block := aa.block, off := aa.off + 1 } = some (.string x.id) ∧ u2.cell? { block := aa.block, off := aa.off + 2 } = some (.string x.title) ∧ u2.cell? { block := aa.block, off := aa.off + 3 } = some (.string x.link) ∧ u2.cell? { block := aa.block, off := aa.off + 4 } = some (.int .i64 x.upd) ∧ u2.cell? { block := aa.block, off := aa.off + 5 } = some (.slice q1 x.ents.length d1) ∧ u2.cell? bb = some (.slice p2 y.path.length c2) ∧ u2.cell? { block := bb.block, off := bb.off + 1 } = some (.string y.id) ∧ u2.cell? { block := bb.block, off := bb.off + 2 } = some (.string y.title) ∧ u2.cell? { block := bb.block, off := bb.off + 3 } = some (.string y.link) ∧ u2.cell? { block := bb.block, off := bb.off + 4 } = some (.int .i64 y.upd) ∧ u2.cell? { block := bb.block, off := bb.off + 5 } = some (.slice q2 y.ents.length d2)) := fun u1 u2 hb h => by
          obtain ⟨z0, z1, z2, z3, z4, z5, z6, z7, z8, z9, z10, z11, z12⟩ := h
          exact ⟨mcell hb z0, mcell hb z1, mcell hb z2, mcell hb z3, mcell hb z4, mcell hb z5, mcell hb z6, mcell hb z7, mcell hb z8, mcell hb z9, mcell hb z10, mcell hb z11, mcell hb z12⟩
        clear a0 a1 a2 a3 a4 a5 y0 y1 y2 y3 y4 y5 hb hp1 he1 hp2 he2 hpd1 hpd2 hed1 hed2
        rw [show errZ true = 0 from rfl] at cE
        rw [Bool.true_and] at hR
        generalize cmpF y x = ce at *
        by_cases hce : ce < 0
        · rw [decide_eq_true hce, Bool.true_and] at hR
          have HRI := Lib.hid (show R = errZ (!(((l.take (k + 1)).drop 0).any fun e => decide (e.id = x.id)) && okFs (l.take (k + 1 + 1)) (l.drop (k + 1 + 1))) from hR)
          have hce2 : ¬ 0 ≤ ce := by omega
          clear hR
          go_wp2
          first
            | (go_region_held3 (fun w' => w'.cell? ⟨w.heap.size, 0, none⟩ = some (.slice (some a) l.length c) ∧ w'.cell? aa = some (.slice p1 x.path.length c1) ∧ w'.cell? { block := aa.block, off := aa.off + 1 } = some (.string x.id) ∧ w'.cell? { block := aa.block, off := aa.off + 2 } = some (.string x.title) ∧ w'.cell? { block := aa.block, off := aa.off + 3 } = some (.string x.link) ∧ w'.cell? { block := aa.block, off := aa.off + 4 } = some (.int .i64 x.upd) ∧ w'.cell? { block := aa.block, off := aa.off + 5 } = some (.slice q1 x.ents.length d1) ∧ w'.cell? bb = some (.slice p2 y.path.length c2) ∧ w'.cell? { block := bb.block, off := bb.off + 1 } = some (.string y.id) ∧ w'.cell? { block := bb.block, off := bb.off + 2 } = some (.string y.title) ∧ w'.cell? { block := bb.block, off := bb.off + 3 } = some (.string y.link) ∧ w'.cell? { block := bb.block, off := bb.off + 4 } = some (.int .i64 y.upd) ∧ w'.cell? { block := bb.block, off := bb.off + 5 } = some (.slice q2 y.ents.length d2)) (first | with_reducible exact S0 | with_reducible exact S6 | with_reducible exact S7) (first | (go_at_call 45; with_reducible refine cC.mono ?_; rintro e w7 ⟨rfl, b7⟩; have S7 := hSB _ _ b7 S6) | (go_at_call 18; with_reducible refine cE.mono ?_; rintro e w6 ⟨rfl, b6⟩; have S6 := hSB _ _ b6 S0; have cC := cC0 _ b6)))
            | fail
          have HBQ := Lib.hid (HBW.out.trans (((Below.refl wp.heap.size wp).drew.trans (b6.trans (b7.mono b6.size))).mono HBW.out.size))
          clear S0 S6 S7 hSB b6 b7
          have X5 := HX.out
          have X0 := (HL.out.below HBQ.out (k + 1) hlt)
          go_wp2
          go_loopw [4] (fun zz wr => ∃ j : Nat, j ≤ (k + 1) ∧ zz = .int .i64 (j : Int) ∧ R = errZ (!(((l.take (k + 1)).drop j).any fun e => decide (e.id = x.id)) && okFs (l.take ((k + 1) + 1)) (l.drop ((k + 1) + 1))) ∧ Below w7.heap.size w7 wr) (fun zz _ => (k + 1) - (RowKit.intOf zz).toNat)
          case atStart => exact ⟨0, Nat.zero_le _, rfl, HRI.out, Below.refl _ _⟩
          case round =>
            clear HRI
            obtain ⟨j, hj, rfl, hRj, hbj⟩ := hrel
            have hbk := Lib.hid hbj
            have HBJ := Lib.hid (HBQ.out.trans (hbj.mono HBQ.out.size))
            clear hbj
            by_cases hjl : j < (k + 1)
            · have hjz : (j : Int) < ((k : Int) + 1) := by omega
              have hjn : (j : Int) < (l.length : Int) := by omega
              have e5j := mcell HBJ.out HX.out
              obtain ⟨a2, _, _, _, _, ha2, ⟨-, c0, -⟩, -, -⟩ := HL.out.below HBJ.out j (by omega)
              obtain ⟨a3, _, _, _, _, ha3, ⟨-, x0, -⟩, -, -⟩ := HL.out.below HBJ.out (k + 1) hlt
              cases ha2
              cases ha3
              rw [hx, haa] at x0
              rw [anyF_at l x.id (k + 1) j (by omega) hjl] at hRj
              obtain ⟨y2, hy2⟩ : ∃ y, l[j] = y := ⟨_, rfl⟩
              rw [hy2] at c0 hRj
              obtain ⟨cc, hcc⟩ : ∃ cc, a.add (j * 6) = cc := ⟨_, rfl⟩
              rw [hcc] at c0
              simp only [Addr.add, Nat.reduceEqDiff, ↓reduceIte] at c0 x0
              clear hy2 X5 X0
              by_cases hq : y2.id = x.id
              · rw [decide_eq_true hq] at hRj
                rw [hq] at c0
                have HRR := Lib.hid hRj
                clear hRj hq
                go_wp2
                go_quiet (fail)
                go_wp2
                go_ret
                exact ⟨mretI HRR.out.symm, mdrewN (HB5.out.trans (HBJ.out.mono HB5.out.size)) _⟩
              · rw [decide_eq_false hq] at hRj
                obtain ⟨n1, n2⟩ := mstr_ne hq
                have HRR := Lib.hid hRj
                clear hRj hq
                go_wp2
                go_quiet (fail)
                go_wp2
                go_roundw
                case rel => exact ⟨j + 1, by omega, by go_num, HRR.out, mdrewN hbk.out _⟩
                case measure => simp [RowKit.intOf]; omega
            · obtain rfl : j = (k + 1) := by omega
              have hjz : ¬ ((k : Int) + 1) < ((k : Int) + 1) := by omega
              rw [List.drop_eq_nil_of_le (by rw [List.length_take]; omega)] at hRj
              have HRR := Lib.hid (show R = errZ (okFs (l.take ((k + 1) + 1)) (l.drop ((k + 1) + 1))) from hRj)
              clear hRj X5 X0
              go_wp2
              go_roundw
              case rel => exact ⟨(k + 1) + 1, by omega, by go_num, HRR.out, HBJ.out⟩
              case measure => simp [RowKit.intOf]; omega
        · rw [decide_eq_false hce, Bool.false_and] at hR
          have hce2 : 0 ≤ ce := by omega
          have HRR := Lib.hid hR
          clear hR
          go_wp2
          first
            | (go_region_held3 (fun w' => w'.cell? ⟨w.heap.size, 0, none⟩ = some (.slice (some a) l.length c) ∧ w'.cell? aa = some (.slice p1 x.path.length c1) ∧ w'.cell? { block := aa.block, off := aa.off + 1 } = some (.string x.id) ∧ w'.cell? { block := aa.block, off := aa.off + 2 } = some (.string x.title) ∧ w'.cell? { block := aa.block, off := aa.off + 3 } = some (.string x.link) ∧ w'.cell? { block := aa.block, off := aa.off + 4 } = some (.int .i64 x.upd) ∧ w'.cell? { block := aa.block, off := aa.off + 5 } = some (.slice q1 x.ents.length d1) ∧ w'.cell? bb = some (.slice p2 y.path.length c2) ∧ w'.cell? { block := bb.block, off := bb.off + 1 } = some (.string y.id) ∧ w'.cell? { block := bb.block, off := bb.off + 2 } = some (.string y.title) ∧ w'.cell? { block := bb.block, off := bb.off + 3 } = some (.string y.link) ∧ w'.cell? { block := bb.block, off := bb.off + 4 } = some (.int .i64 y.upd) ∧ w'.cell? { block := bb.block, off := bb.off + 5 } = some (.slice q2 y.ents.length d2)) (first | with_reducible exact S0 | with_reducible exact S6 | with_reducible exact S7) (first | (go_at_call 45; with_reducible refine cC.mono ?_; rintro e w7 ⟨rfl, b7⟩; have S7 := hSB _ _ b7 S6) | (go_at_call 18; with_reducible refine cE.mono ?_; rintro e w6 ⟨rfl, b6⟩; have S6 := hSB _ _ b6 S0; have cC := cC0 _ b6)))
            | fail
          all_goals
            go_wp2
            go_ret
            exact ⟨mretI HRR.out.symm, HB5.out.trans ((HBW.out.trans (((Below.refl _ _).drew.trans (b6.trans (b7.mono b6.size))).mono HBW.out.size)).mono HB5.out.size)⟩
    · obtain rfl : i = l.length := by omega
      have hiz : ¬ (l.length : Int) < (l.length : Int) := by omega
      rw [List.drop_length, show okFs (l.take l.length) [] = true from rfl] at hR
      have HBB := Lib.hid hb
      have HRR := Lib.hid hR
      clear hR hb
      go_wp2
      go_ret
      exact ⟨mretI HRR.out.symm, HB5.out.trans (HBB.out.mono HB5.out.size)⟩
end Go.Proofs.YtbfalppeifkjdaaGreatDoor
end
