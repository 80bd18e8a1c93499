/- Packed from the texts NnI. -/
import Derived.Test.YtbfalppeifkjdaaGreatDoorXm7
section
namespace Go.Proofs.YtbfalppeifkjdaaGreatDoor
open Go.RowKit Go.Maps
theorem filter_flat {α β : Type} (p : α → Bool) (f : α → List β) : ∀ l : List α, ((l.filter p).flatMap f).length ≤ (l.flatMap f).length
  | [] => Nat.le_refl _
  | x :: r => by
    have ih := filter_flat p f r
    by_cases h : p x = true
    · rw [List.filter_cons_of_pos h, List.flatMap_cons, List.flatMap_cons, List.length_append, List.length_append]
      omega
    · rw [List.filter_cons_of_neg h, List.flatMap_cons, List.length_append]
      omega
theorem pair_mem {α β : Type} {R : α → β → Prop} {l : List α} {m : List β} (h : PairL R l m) : ∀ y ∈ m, ∃ x ∈ l, R x y := by
  induction h with
  | nil => intro y hy; cases hy
  | snoc _ hxy ih =>
    intro y hy
    rcases List.mem_append.1 hy with hy | hy
    · obtain ⟨x, hx, hr⟩ := ih y hy
      exact ⟨x, List.mem_append_left _ hx, hr⟩
    · rw [List.mem_singleton.1 hy]
      exact ⟨_, List.mem_append_right _ (List.mem_singleton.2 rfl), hxy⟩
theorem pair_to {α β γ : Type} {R : α → β → Prop} {l : List α} {m : List β} (h : PairL R l m) (g : β → γ) {S : α → γ → Prop} (hS : ∀ x y, R x y → S x (g y)) : PairL S l (m.map g) := by
  induction h with
  | nil => exact PairL.nil
  | snoc _ hxy ih => rw [List.map_append, List.map_singleton]; exact ih.snoc (hS _ _ hxy)
theorem pairF_len {l : List FC} {done : List ByteArray} {outs : List FC} (hP : PairL (fun q y => lateG mgF ((grpG fcKey l q).map FC.f) = some y.f) done outs) (hE : ∀ x ∈ l, FcGood x) : ∀ y ∈ outs, y.f.path.length ≤ 1000000 := fun y hy => by
  obtain ⟨q, -, hq⟩ := pair_mem hP y hy
  refine late_all (P := fun f : FeedD => f.path.length ≤ 1000000) (fun a b ha hb => ?_) _ _ hq fun f hf => ?_
  · show (ltF a b).path.length ≤ 1000000
    unfold ltF
    split
    · exact hb
    · exact ha
  · obtain ⟨x, hx, rfl⟩ := List.mem_map.1 hf
    have := (hE x ((mem_grpG l q x).1 hx).1).sm.1.plen
    omega
theorem grp_map (l : List FC) (q : ByteArray) : grpG FeedD.id (l.map FC.f) q = (grpG fcKey l q).map FC.f := by
  unfold grpG
  rw [List.filter_map]
  rfl
theorem grpF_ok {f : List (ByteArray × Value)} {l : List FC} {done : List ByteArray} {outs os' : List FC} (hnd : done.Nodup) (hd : ∀ q, q ∈ done ↔ gpF f q ≠ none) (hv : ∀ q, gpF f q = none ↔ grpG fcKey l q = []) (hP : PairL (fun q y => lateG mgF ((grpG fcKey l q).map FC.f) = some y.f) done outs)
    (hp : os'.Perm outs) (hs : os'.Pairwise fun a b => ¬ cmpF b.f a.f < 0) : os'.map FC.f = addsG FeedD.id cmpF mgF [] (l.map FC.f) := by
  have hP2 := pair_to hP FC.f (S := fun q y => lateG mgF (grpG FeedD.id (l.map FC.f) q) = some y) (fun q y h => by rw [grp_map]; exact h)
  obtain ⟨h1, h2⟩ := pair_fun hP2 (fun q => (lateG mgF (grpG FeedD.id (l.map FC.f) q)).getD fcZ.f) (fun q y h => by rw [h]; rfl)
  refine grp_ok mgF_ok (l.map FC.f) done (fun q => (lateG mgF (grpG FeedD.id (l.map FC.f) q)).getD fcZ.f) hnd (fun q => ?_) h2 (os'.map FC.f) (by rw [← h1]; exact hp.map _) (List.pairwise_map.2 hs)
  rw [hd]
  constructor
  · intro h
    obtain ⟨x, hx⟩ := List.exists_mem_of_ne_nil _ (fun e => h ((hv q).2 e))
    have := (mem_grpG l q x).1 hx
    exact ⟨x.f, List.mem_map.2 ⟨x, this.1, rfl⟩, this.2⟩
  · rintro ⟨y, hy, hk⟩ e
    obtain ⟨x, hx, rfl⟩ := List.mem_map.1 hy
    have := (hv q).1 e
    rw [List.eq_nil_iff_forall_not_mem] at this
    exact this x ((mem_grpG l q x).2 ⟨hx, hk⟩)
set_option maxRecDepth 100000 in
set_option maxHeartbeats 32000000 in
theorem nz_combineF (l : List FC) (p : Option Addr) (c : Nat) (w : World) (L : List Nat) (hl : RwAt 6 fcCells w p l) (hOk : ∀ x ∈ l, fcOk (holes w L) x) (hLw : ∀ j ∈ L, j < w.heap.size) (hn : l.length ≤ 1000000) (hE : ∀ x ∈ l, FcGood x) (ht : (l.flatMap fun x => x.f.ents).length ≤ 1000000) (hT : TabW w) :
    Calls Tryz.prog 61 #[.slice p l.length c, .func (.func 62) #[] #[], .func (.func 63) #[] #[], .func (.func 64) #[] #[]] w fun e w' => ∃ v ys, e = .returned v ∧ ys.map FC.f = addsG FeedD.id cmpF mgF [] (l.map FC.f) ∧ NewRow 6 fcCells w.heap.size v ys w' ∧ (∀ y ∈ ys, fcOk (holes w' L) y) ∧ Below w.heap.size w w' := by
  obtain ⟨i0, hi0, hi1, hi3, hi4⟩ := info_parts nz_infoF
  have hmm := @run_makeMap Tryz.prog
  have HL := Lib.hid hl
  have HO := Lib.hid hOk
  have HE := Lib.hid hE
  have HT := Lib.hid hT
  have HLW := Lib.hid hLw
  have HTO := Lib.hid ht
  clear ht
  have hnz : (l.length : Int) ≤ 1000000 := by omega
  obtain ⟨b, hb⟩ : ∃ b, b = w.heap.size := ⟨_, rfl⟩
  have hG0 : GpsAt 35 6 fcCells fcKey (b + 1) b [] ([] : List FC) (w.alloc (.map #[] 0)) := by rw [hb]; exact GpsAt.made w
  have hB0 : Below w.heap.size w (w.alloc (.map #[] 0)) := (Below.refl _ _).alloc (Nat.le_refl _) _
  have hbw : w.heap.size ≤ b := by omega
  have h1c : ∀ (x : FC), ∀ u ∈ ([.slice x.p x.f.path.length x.c, .string x.f.id, .string x.f.title, .string x.f.link, .int .i64 x.f.upd, .slice x.q x.f.ents.length x.d] : List Value), u.oneCell' = true := by
    intro x u hu
    simp only [List.mem_cons, List.not_mem_nil, or_false] at hu
    rcases hu with rfl | rfl | rfl | rfl | rfl | rfl <;> rfl
  have H1C := Lib.hid h1c
  have HBQ := Lib.hid hb
  clear hl hOk hE hT hLw h1c hb
  go_enter Tryz.func61, Tryz.ntmps61
  go_wp2
  simp only [← HBQ.out]
  go_loopw [18] (fun q wr => ∃ (i : Nat) (f : List (ByteArray × Value)), i ≤ l.length ∧ q = .int .i64 (i : Int) ∧ f.length = i ∧ GpsAt 35 6 fcCells fcKey (b + 1) b f (l.take i) wr ∧ Below w.heap.size w wr) (fun q _ => l.length - (RowKit.intOf q).toNat)
  case atStart => exact ⟨0, [], Nat.zero_le _, rfl, rfl, hG0, hB0⟩
  case round =>
    clear hmm hG0 hB0
    obtain ⟨i, f, hi, rfl, hfl, hG, hbr⟩ := hrel
    have hzr := hbr.size
    by_cases hlt : i < l.length
    · have hiz : (i : Int) < (l.length : Int) := by omega
      obtain ⟨a, rfl, hc⟩ := HL.out.below hbr i hlt
      have htk : l.take (i + 1) = l.take i ++ [l[i]] := List.take_succ_eq_append_getElem hlt
      obtain ⟨x, hx⟩ : ∃ x, l[i] = x := ⟨_, rfl⟩
      have hxE := HE.out x (by rw [← hx]; exact List.getElem_mem _)
      rw [hx] at hc htk
      clear hx
      have a0 := hc 0 _ rfl
      have a1 := hc 1 _ rfl
      have a2 := hc 2 _ rfl
      have a3 := hc 3 _ rfl
      have a4 := hc 4 _ rfl
      have a5 := hc 5 _ rfl
      clear hc
      obtain ⟨aa, haa⟩ : ∃ aa, a.add (i * 6) = aa := ⟨_, rfl⟩
      rw [haa] at a0 a1 a2 a3 a4 a5
      simp only [Addr.add, Nat.reduceEqDiff, ↓reduceIte] at a0 a1 a2 a3 a4 a5
      obtain ⟨W2, hW2⟩ : ∃ W2, W2 = wr.alloc (.cells #[.slice x.p x.f.path.length x.c, .string x.f.id, .string x.f.title, .string x.f.link, .int .i64 x.f.upd, .slice x.q x.f.ents.length x.d] 35) := ⟨_, rfl⟩
      obtain ⟨bx, hbx⟩ : ∃ n, n = wr.heap.size := ⟨_, rfl⟩
      have hb2 : Below wr.heap.size wr W2 := by rw [hW2]; exact (Below.refl _ _).alloc (Nat.le_refl _) _
      have hX : W2.cell? ⟨bx, 0, none⟩ = some (.slice x.p x.f.path.length x.c) ∧ W2.cell? ⟨bx, 1, none⟩ = some (.string x.f.id) ∧ W2.cell? ⟨bx, 2, none⟩ = some (.string x.f.title) ∧ W2.cell? ⟨bx, 3, none⟩ = some (.string x.f.link) ∧ W2.cell? ⟨bx, 4, none⟩ = some (.int .i64 x.f.upd) ∧ W2.cell? ⟨bx, 5, none⟩ = some (.slice x.q x.f.ents.length x.d) ∧ GpMap W2 b f := by
        refine ⟨?_, ?_, ?_, ?_, ?_, ?_, (hG.more hb2).map⟩ <;> (rw [hW2, hbx]; first | exact cell_of_row _ _ 0 _ _ _ (heap_alloc_new wr _) | exact cell_of_row _ _ 1 _ _ _ (heap_alloc_new wr _) | exact cell_of_row _ _ 2 _ _ _ (heap_alloc_new wr _) | exact cell_of_row _ _ 3 _ _ _ (heap_alloc_new wr _) | exact cell_of_row _ _ 4 _ _ _ (heap_alloc_new wr _) | exact cell_of_row _ _ 5 _ _ _ (heap_alloc_new wr _))
      have HX := Lib.hid hX
      have HG2 := Lib.hid (hG.more hb2)
      have HFR : Hid (∀ (q : ByteArray) (j : Nat), ((gpF f q).getD (.slice none 0 0)).ownBlock = some j → j = bx → False) := Lib.hid (fun q j h e => absurd ((hG.at q).lt j h).2 (by omega))
      have HBW := Lib.hid (hbr.trans (hb2.mono hzr))
      have HTK := Lib.hid htk
      have HSB := Lib.hid (fun (u1 u2 : World) (hb : Below u1.heap.size u1 u2) (hss : u1.cell? ⟨bx, 0, none⟩ = some (.slice x.p x.f.path.length x.c) ∧ u1.cell? ⟨bx, 1, none⟩ = some (.string x.f.id) ∧ u1.cell? ⟨bx, 2, none⟩ = some (.string x.f.title) ∧ u1.cell? ⟨bx, 3, none⟩ = some (.string x.f.link) ∧ u1.cell? ⟨bx, 4, none⟩ = some (.int .i64 x.f.upd) ∧ u1.cell? ⟨bx, 5, none⟩ = some (.slice x.q x.f.ents.length x.d) ∧ GpMap u1 b f) => (show u2.cell? ⟨bx, 0, none⟩ = some (.slice x.p x.f.path.length x.c) ∧ u2.cell? ⟨bx, 1, none⟩ = some (.string x.f.id) ∧ u2.cell? ⟨bx, 2, none⟩ = some (.string x.f.title) ∧ u2.cell? ⟨bx, 3, none⟩ = some (.string x.f.link) ∧ u2.cell? ⟨bx, 4, none⟩ = some (.int .i64 x.f.upd) ∧ u2.cell? ⟨bx, 5, none⟩ = some (.slice x.q x.f.ents.length x.d) ∧ GpMap u2 b f from by
        obtain ⟨z0, z1, z2, z3, z4, z5, z6⟩ := hss
        exact ⟨mcell hb z0, mcell hb z1, mcell hb z2, mcell hb z3, mcell hb z4, mcell hb z5, z6.same (hb.block b z6.lt)⟩))
      have hks : (x.f.id).size ≤ maxLen := by have := hxE.sm.1.id; unfold maxLen; omega
      have cI := fun wx => nz_idF x wx
      unfold fcV at cI
      have h1c := H1C.out x
      have hgl : (grpG fcKey (l.take i) (x.f.id)).length ≤ 1000000 := by
        refine Nat.le_trans (List.length_filter_le ..) ?_
        rw [List.length_take]
        omega
      have HBX := Lib.hid hbx
      clear hX hbr htk hG hxE H1C HL HE HO HT HLW hbx
      go_upto_region 5 with fail
      simp only [← hW2, ← HBX.out]
      clear hW2 hb2 haa a0 a1 a2 a3 a4 a5
      have SD0 : W2.drew.cell? ⟨bx, 0, none⟩ = some (.slice x.p x.f.path.length x.c) ∧ W2.drew.cell? ⟨bx, 1, none⟩ = some (.string x.f.id) ∧ W2.drew.cell? ⟨bx, 2, none⟩ = some (.string x.f.title) ∧ W2.drew.cell? ⟨bx, 3, none⟩ = some (.string x.f.link) ∧ W2.drew.cell? ⟨bx, 4, none⟩ = some (.int .i64 x.f.upd) ∧ W2.drew.cell? ⟨bx, 5, none⟩ = some (.slice x.q x.f.ents.length x.d) ∧ GpMap W2.drew b f := HSB.out _ _ ((Below.refl _ _).drew) HX.out
      have D0 := Lib.hid (HBW.out.trans (((Below.refl W2.heap.size W2).drew).mono HBW.out.size))
      have G0 := Lib.hid (HG2.out.more ((Below.refl W2.heap.size W2).drew))
      clear HX HBW HG2
      refine wp_region_late (S := fun w' => w'.cell? ⟨bx, 0, none⟩ = some (.slice x.p x.f.path.length x.c) ∧ w'.cell? ⟨bx, 1, none⟩ = some (.string x.f.id) ∧ w'.cell? ⟨bx, 2, none⟩ = some (.string x.f.title) ∧ w'.cell? ⟨bx, 3, none⟩ = some (.string x.f.link) ∧ w'.cell? ⟨bx, 4, none⟩ = some (.int .i64 x.f.upd) ∧ w'.cell? ⟨bx, 5, none⟩ = some (.slice x.q x.f.ents.length x.d) ∧ GpMap w' b f) (D := [12]) (by kernel_rfl) ?_
      generalize W2.drew = Wd at *
      refine anyL_take (i := 0) (oi := { dst := some 22, op := Go.Op.move (Go.Operand.tmp 9), type := 109, pos := "combine.go:36", after := #[], guard := none }) (v := ?_) rfl (by decide) (by kernel_rfl) (by kernel_rfl) (by kernel_rfl) (by kernel_rfl) (fun _ _ _ h => h) (Or.inl ⟨by rfl, ?_⟩) SD0 ?_
      rotate_left
      · intro wz hSz
        skip
        go_simp
        (try with_reducible rfl)
      try simp only [Act.put, List.setIfInBounds_toArray, List.set_cons_zero, List.set_cons_succ]
      refine anyL_take (i := 1) (oi := { dst := some 23, op := Go.Op.move (Go.Operand.tmp 1), type := 95, pos := "combine.go:36", after := #[], guard := none }) (v := ?_) rfl (by decide) (by kernel_rfl) (by kernel_rfl) (by kernel_rfl) (by kernel_rfl) (fun _ _ _ h => h) (Or.inl ⟨by rfl, ?_⟩) SD0 ?_
      rotate_left
      · intro wz hSz
        skip
        go_simp
        (try with_reducible rfl)
      try simp only [Act.put, List.setIfInBounds_toArray, List.set_cons_zero, List.set_cons_succ]
      refine anyL_take (i := 2) (oi := { dst := some 24, op := Go.Op.load 35 (Go.Operand.tmp 11), type := 35, pos := "combine.go:36", after := #[], guard := none }) (v := ?_) rfl (by decide) (by kernel_rfl) (by kernel_rfl) (by kernel_rfl) (by kernel_rfl) (fun _ _ _ h => h) (Or.inl ⟨by rfl, ?_⟩) SD0 ?_
      rotate_left
      · intro wz hSz
        obtain ⟨z0, z1, z2, z3, z4, z5, z6⟩ := hSz
        go_simp
        (try with_reducible rfl)
      try simp only [Act.put, List.setIfInBounds_toArray, List.set_cons_zero, List.set_cons_succ]
      refine anyL_take (i := 4) (oi := { dst := some 26, op := Go.Op.move (Go.Operand.tmp 9), type := 109, pos := "combine.go:36", after := #[], guard := none }) (v := ?_) rfl (by decide) (by kernel_rfl) (by kernel_rfl) (by kernel_rfl) (by kernel_rfl) (fun _ _ _ h => h) (Or.inl ⟨by rfl, ?_⟩) SD0 ?_
      rotate_left
      · intro wz hSz
        skip
        go_simp
        (try with_reducible rfl)
      try simp only [Act.put, List.setIfInBounds_toArray, List.set_cons_zero, List.set_cons_succ]
      refine anyL_take (i := 5) (oi := { dst := some 27, op := Go.Op.move (Go.Operand.tmp 1), type := 95, pos := "combine.go:36", after := #[], guard := none }) (v := ?_) rfl (by decide) (by kernel_rfl) (by kernel_rfl) (by kernel_rfl) (by kernel_rfl) (fun _ _ _ h => h) (Or.inl ⟨by rfl, ?_⟩) SD0 ?_
      rotate_left
      · intro wz hSz
        skip
        go_simp
        (try with_reducible rfl)
      try simp only [Act.put, List.setIfInBounds_toArray, List.set_cons_zero, List.set_cons_succ]
      refine anyL_take (i := 6) (oi := { dst := some 28, op := Go.Op.load 35 (Go.Operand.tmp 11), type := 35, pos := "combine.go:36", after := #[], guard := none }) (v := ?_) rfl (by decide) (by kernel_rfl) (by kernel_rfl) (by kernel_rfl) (by kernel_rfl) (fun _ _ _ h => h) (Or.inl ⟨by rfl, ?_⟩) SD0 ?_
      rotate_left
      · intro wz hSz
        obtain ⟨z0, z1, z2, z3, z4, z5, z6⟩ := hSz
        go_simp
        (try with_reducible rfl)
      try simp only [Act.put, List.setIfInBounds_toArray, List.set_cons_zero, List.set_cons_succ]
      refine anyL_take (i := 9) (oi := { dst := some 31, op := Go.Op.load 35 (Go.Operand.tmp 11), type := 35, pos := "combine.go:36", after := #[], guard := none }) (v := ?_) rfl (by decide) (by kernel_rfl) (by kernel_rfl) (by kernel_rfl) (by kernel_rfl) (fun _ _ _ h => h) (Or.inl ⟨by rfl, ?_⟩) SD0 ?_
      rotate_left
      · intro wz hSz
        obtain ⟨z0, z1, z2, z3, z4, z5, z6⟩ := hSz
        go_simp
        (try with_reducible rfl)
      try simp only [Act.put, List.setIfInBounds_toArray, List.set_cons_zero, List.set_cons_succ]
      refine anyL_ready (rs := [3, 10]) (by kernel_rfl) (by simp) ?_
      refine AllL.cons (o := { dst := some 25, op := Go.Op.call { callee := Go.Callee.value (Go.Operand.tmp 23), args := #[Go.Operand.tmp 24], argTypes := #[35] }, type := 9, pos := "combine.go:36", after := #[{ on := 1, ground := Go.Ground.data }, { on := 2, ground := Go.Ground.data }], guard := none }) rfl (fun K' hK => ?_) (AllL.cons (o := { dst := some 32, op := Go.Op.buildSlice 37 1 #[(0, Go.Operand.tmp 31)], type := 37, pos := "combine.go:36", after := #[{ on := 9, ground := Go.Ground.data }], guard := none }) rfl (fun K' hK => ?_) AllL.nil)
      · rw [if_pos (by rfl)]
        go_simp
        go_at_call 62
        refine (cI _).mono ?_
        rintro e1 V1 ⟨rfl, bb⟩
        have SD1 := HSB.out _ _ bb SD0
        have D1 := Lib.hid (D0.out.trans (bb.mono D0.out.size))
        have G1 := Lib.hid (G0.out.more bb)
        refine hK _ _ SD1 ?_
        clear hK K' bb SD0 D0 G0
        try simp only [Act.put, List.setIfInBounds_toArray, List.set_cons_zero, List.set_cons_succ]
        refine anyL_ready (rs := [7, 10]) (by kernel_rfl) (by simp) ?_
        refine AllL.cons (o := { dst := some 29, op := Go.Op.call { callee := Go.Callee.value (Go.Operand.tmp 27), args := #[Go.Operand.tmp 28], argTypes := #[35] }, type := 9, pos := "combine.go:36", after := #[{ on := 5, ground := Go.Ground.data }, { on := 6, ground := Go.Ground.data }, { on := 3, ground := Go.Ground.chain }], guard := none }) rfl (fun K' hK => ?_) (AllL.cons (o := { dst := some 32, op := Go.Op.buildSlice 37 1 #[(0, Go.Operand.tmp 31)], type := 37, pos := "combine.go:36", after := #[{ on := 9, ground := Go.Ground.data }], guard := none }) rfl (fun K' hK => ?_) AllL.nil)
        · rw [if_pos (by rfl)]
          go_simp
          go_at_call 62
          refine (cI _).mono ?_
          rintro e2 V2 ⟨rfl, bb⟩
          have SD2 := HSB.out _ _ bb SD1
          have D2 := Lib.hid (D1.out.trans (bb.mono D1.out.size))
          have G2 := Lib.hid (G1.out.more bb)
          refine hK _ _ SD2 ?_
          clear hK K' bb SD1 D1 G1
          try simp only [Act.put, List.setIfInBounds_toArray, List.set_cons_zero, List.set_cons_succ]
          refine anyL_take (i := 8) (oi := { dst := some 30, op := Go.Op.lookup 109 (Go.Operand.tmp 26) (Go.Operand.tmp 29) false, type := 37, pos := "combine.go:36", after := #[{ on := 4, ground := Go.Ground.data }, { on := 7, ground := Go.Ground.data }], guard := none }) (v := ?_) rfl (by decide) (by kernel_rfl) (by kernel_rfl) (by kernel_rfl) (by kernel_rfl) (fun _ _ _ h => h) (Or.inl ⟨by rfl, ?_⟩) SD2 ?_
          rotate_left
          · intro wz hSz
            obtain ⟨z0, z1, z2, z3, z4, z5, z6⟩ := hSz
            have hlk := z6.look Tryz.underlying109 (nz_zeroSF wz) (x.f.id) hks
            go_simp
            (try with_reducible rfl)
          try simp only [Act.put, List.setIfInBounds_toArray, List.set_cons_zero, List.set_cons_succ]
          refine anyL_ready (rs := [10]) (by kernel_rfl) (by simp) ?_
          refine AllL.cons (o := { dst := some 32, op := Go.Op.buildSlice 37 1 #[(0, Go.Operand.tmp 31)], type := 37, pos := "combine.go:36", after := #[{ on := 9, ground := Go.Ground.data }], guard := none }) rfl (fun K' hK => ?_) AllL.nil
          rw [if_pos (by rfl)]
          go_simp
          obtain ⟨V3, hV3⟩ : ∃ V, V = V2.alloc (.cells #[.slice x.p x.f.path.length x.c, .string x.f.id, .string x.f.title, .string x.f.link, .int .i64 x.f.upd, .slice x.q x.f.ents.length x.d] 35) := ⟨_, rfl⟩
          obtain ⟨bq, hbq⟩ : ∃ n, n = V2.heap.size := ⟨_, rfl⟩
          have bb : Below V2.heap.size V2 V3 := by rw [hV3]; exact (Below.refl _ _).alloc (Nat.le_refl _) _
          have M3 : MBlk V3 bq #[.slice x.p x.f.path.length x.c, .string x.f.id, .string x.f.title, .string x.f.link, .int .i64 x.f.upd, .slice x.q x.f.ents.length x.d] 35 := by rw [hV3, hbq]; exact heap_alloc_new _ _
          have SD3 := HSB.out _ _ bb SD2
          have D3 := Lib.hid (D2.out.trans (bb.mono D2.out.size))
          have G3 := Lib.hid (G2.out.more bb)
          simp only [← hV3, ← hbq]
          refine hK _ _ SD3 ?_
          clear hK K' hV3 hbq bb SD2 D2 G2
          try simp only [Act.put, List.setIfInBounds_toArray, List.set_cons_zero, List.set_cons_succ]
          refine anyL_ready (rs := [11]) (by kernel_rfl) (by simp) ?_
          refine AllL.cons (o := { dst := some 33, op := Go.Op.call { callee := Go.Callee.builtin Go.Builtin.append, args := #[Go.Operand.tmp 30, Go.Operand.tmp 32], argTypes := #[37, 37] }, type := 37, pos := "combine.go:36", after := #[{ on := 8, ground := Go.Ground.data }, { on := 10, ground := Go.Ground.data }, { on := 7, ground := Go.Ground.chain }], guard := none }) rfl (fun K' hK => ?_) AllL.nil
          rw [if_pos (by rfl)]
          have hG := G3.out
          refine wp_append_lies _ (.tmp 30) (.tmp 32) 37 rfl (b + 1) 35 i0 (.agg #[.slice none 0 0, .string ⟨#[]⟩, .string ⟨#[]⟩, .string ⟨#[]⟩, .int .i64 0, .slice none 0 0]) 6 104 Tryz.underlying37 hi0 hi1 hi3 hi4 rfl (by decide) ((gpF f (x.f.id)).getD (.slice none 0 0)) (grpG fcKey (l.take i) (x.f.id)).length (rowC fcCells (grpG fcKey (l.take i) (x.f.id))) rfl (hG.at _) ⟨bq, 0, none⟩ 1 1 [.slice x.p x.f.path.length x.c, .string x.f.id, .string x.f.title, .string x.f.link, .int .i64 x.f.upd, .slice x.q x.f.ents.length x.d] rfl rfl (World.news_of_block M3) h1c (by decide) (by unfold maxLen; omega) (by omega) hG.size _ rfl ?_
          intro g cap V' hown hgr hat hlt
          have hm6 : GpMap V' b f := hG.map.same (hgr.block b hG.map.lt fun e => by have := ((hG.at (x.f.id)).lt b e.symm).1; omega)
          have hfar : ∀ o u, V3.cell? ⟨bx, o, none⟩ = some u → V'.cell? ⟨bx, o, none⟩ = some u := fun o u h => hgr.cell h fun e => HFR.out (x.f.id) bx e.symm rfl
          have S6 : V'.cell? ⟨bx, 0, none⟩ = some (.slice x.p x.f.path.length x.c) ∧ V'.cell? ⟨bx, 1, none⟩ = some (.string x.f.id) ∧ V'.cell? ⟨bx, 2, none⟩ = some (.string x.f.title) ∧ V'.cell? ⟨bx, 3, none⟩ = some (.string x.f.link) ∧ V'.cell? ⟨bx, 4, none⟩ = some (.int .i64 x.f.upd) ∧ V'.cell? ⟨bx, 5, none⟩ = some (.slice x.q x.f.ents.length x.d) ∧ GpMap V' b f := by
            obtain ⟨z0, z1, z2, z3, z4, z5, z6⟩ := SD3
            exact ⟨hfar _ _ z0, hfar _ _ z1, hfar _ _ z2, hfar _ _ z3, hfar _ _ z4, hfar _ _ z5, hm6⟩
          refine hK _ _ S6 ?_
          clear hK K'
          try simp only [Act.put, List.setIfInBounds_toArray, List.set_cons_zero, List.set_cons_succ]
          refine anyL_ready (rs := [12]) (by kernel_rfl) (by simp) ?_
          refine AllL.last (o := { dst := none, op := Go.Op.mapUpdate 109 (Go.Operand.tmp 22) (Go.Operand.tmp 25) (Go.Operand.tmp 33), type := 0, pos := "combine.go:36", after := #[{ on := 0, ground := Go.Ground.data }, { on := 3, ground := Go.Ground.data }, { on := 11, ground := Go.Ground.data }, { on := 11, ground := Go.Ground.chain }, { on := 0, ground := Go.Ground.phase }, { on := 1, ground := Go.Ground.phase }, { on := 2, ground := Go.Ground.phase }, { on := 3, ground := Go.Ground.phase }, { on := 4, ground := Go.Ground.phase }, { on := 5, ground := Go.Ground.phase }, { on := 6, ground := Go.Ground.phase }, { on := 7, ground := Go.Ground.phase }, { on := 8, ground := Go.Ground.phase }, { on := 9, ground := Go.Ground.phase }, { on := 10, ground := Go.Ground.phase }, { on := 11, ground := Go.Ground.phase }], guard := none }) rfl (by decide) (fun K' hK => ?_)
          rw [if_pos (by rfl)]
          obtain ⟨V'', hrun, hm7, hg7⟩ := World.ownsMap.update hm6 gp_law Tryz.underlying109 (by unfold maxLen; omega) (Go.WideMaps.keyOf_string_mk Tryz.underlying9 hks) (show slElem (.slice (some ⟨g, 0, none⟩) ((grpG fcKey (l.take i) (x.f.id)).length + 1) cap) = some (.held _, []) from rfl)
          have hB7 := hG.below (x.f.id) D3.out (by omega) (Nat.le_trans (by omega) hG.size) hgr hg7
          have hG7 := hG.put (x := x) rfl rfl hgr hown hat hm7 hg7
          have HB7 := Lib.hid hB7
          have HG7 := Lib.hid hG7
          clear hm6 hm7 hg7 hgr hown hat hlt hB7 hG7 hG SD3 D3 M3 G3 S6 hfar
          go_simp
          refine hK _ _ ?_
          clear hK K' hrun
          try simp only [Act.put, List.setIfInBounds_toArray, List.set_cons_zero, List.set_cons_succ]
          refine anyL_done (by kernel_rfl) ?_ _
          go_wp2
          go_roundw
          case rel => exact ⟨i + 1, _ :: f, by omega, by go_num, congrArg (· + 1) hfl, by rw [HTK.out]; exact HG7.out, HB7.out⟩
          case measure => simp [RowKit.intOf]; omega
        · rw [if_pos (by rfl)]
          go_simp
          obtain ⟨V2, hV2⟩ : ∃ V, V = V1.alloc (.cells #[.slice x.p x.f.path.length x.c, .string x.f.id, .string x.f.title, .string x.f.link, .int .i64 x.f.upd, .slice x.q x.f.ents.length x.d] 35) := ⟨_, rfl⟩
          obtain ⟨bq, hbq⟩ : ∃ n, n = V1.heap.size := ⟨_, rfl⟩
          have bb : Below V1.heap.size V1 V2 := by rw [hV2]; exact (Below.refl _ _).alloc (Nat.le_refl _) _
          have M2 : MBlk V2 bq #[.slice x.p x.f.path.length x.c, .string x.f.id, .string x.f.title, .string x.f.link, .int .i64 x.f.upd, .slice x.q x.f.ents.length x.d] 35 := by rw [hV2, hbq]; exact heap_alloc_new _ _
          have SD2 := HSB.out _ _ bb SD1
          have D2 := Lib.hid (D1.out.trans (bb.mono D1.out.size))
          have G2 := Lib.hid (G1.out.more bb)
          simp only [← hV2, ← hbq]
          refine hK _ _ SD2 ?_
          clear hK K' hV2 hbq bb SD1 D1 G1
          try simp only [Act.put, List.setIfInBounds_toArray, List.set_cons_zero, List.set_cons_succ]
          refine anyL_ready (rs := [7]) (by kernel_rfl) (by simp) ?_
          refine AllL.cons (o := { dst := some 29, op := Go.Op.call { callee := Go.Callee.value (Go.Operand.tmp 27), args := #[Go.Operand.tmp 28], argTypes := #[35] }, type := 9, pos := "combine.go:36", after := #[{ on := 5, ground := Go.Ground.data }, { on := 6, ground := Go.Ground.data }, { on := 3, ground := Go.Ground.chain }], guard := none }) rfl (fun K' hK => ?_) AllL.nil
          rw [if_pos (by rfl)]
          go_simp
          go_at_call 62
          refine (cI _).mono ?_
          rintro e3 V3 ⟨rfl, bb⟩
          have SD3 := HSB.out _ _ bb SD2
          have D3 := Lib.hid (D2.out.trans (bb.mono D2.out.size))
          have G3 := Lib.hid (G2.out.more bb)
          have M3 := M2.more bb
          refine hK _ _ SD3 ?_
          clear hK K' bb SD2 D2 G2 M2
          try simp only [Act.put, List.setIfInBounds_toArray, List.set_cons_zero, List.set_cons_succ]
          refine anyL_take (i := 8) (oi := { dst := some 30, op := Go.Op.lookup 109 (Go.Operand.tmp 26) (Go.Operand.tmp 29) false, type := 37, pos := "combine.go:36", after := #[{ on := 4, ground := Go.Ground.data }, { on := 7, ground := Go.Ground.data }], guard := none }) (v := ?_) rfl (by decide) (by kernel_rfl) (by kernel_rfl) (by kernel_rfl) (by kernel_rfl) (fun _ _ _ h => h) (Or.inl ⟨by rfl, ?_⟩) SD3 ?_
          rotate_left
          · intro wz hSz
            obtain ⟨z0, z1, z2, z3, z4, z5, z6⟩ := hSz
            have hlk := z6.look Tryz.underlying109 (nz_zeroSF wz) (x.f.id) hks
            go_simp
            (try with_reducible rfl)
          try simp only [Act.put, List.setIfInBounds_toArray, List.set_cons_zero, List.set_cons_succ]
          refine anyL_ready (rs := [11]) (by kernel_rfl) (by simp) ?_
          refine AllL.cons (o := { dst := some 33, op := Go.Op.call { callee := Go.Callee.builtin Go.Builtin.append, args := #[Go.Operand.tmp 30, Go.Operand.tmp 32], argTypes := #[37, 37] }, type := 37, pos := "combine.go:36", after := #[{ on := 8, ground := Go.Ground.data }, { on := 10, ground := Go.Ground.data }, { on := 7, ground := Go.Ground.chain }], guard := none }) rfl (fun K' hK => ?_) AllL.nil
          rw [if_pos (by rfl)]
          have hG := G3.out
          refine wp_append_lies _ (.tmp 30) (.tmp 32) 37 rfl (b + 1) 35 i0 (.agg #[.slice none 0 0, .string ⟨#[]⟩, .string ⟨#[]⟩, .string ⟨#[]⟩, .int .i64 0, .slice none 0 0]) 6 104 Tryz.underlying37 hi0 hi1 hi3 hi4 rfl (by decide) ((gpF f (x.f.id)).getD (.slice none 0 0)) (grpG fcKey (l.take i) (x.f.id)).length (rowC fcCells (grpG fcKey (l.take i) (x.f.id))) rfl (hG.at _) ⟨bq, 0, none⟩ 1 1 [.slice x.p x.f.path.length x.c, .string x.f.id, .string x.f.title, .string x.f.link, .int .i64 x.f.upd, .slice x.q x.f.ents.length x.d] rfl rfl (World.news_of_block M3) h1c (by decide) (by unfold maxLen; omega) (by omega) hG.size _ rfl ?_
          intro g cap V' hown hgr hat hlt
          have hm6 : GpMap V' b f := hG.map.same (hgr.block b hG.map.lt fun e => by have := ((hG.at (x.f.id)).lt b e.symm).1; omega)
          have hfar : ∀ o u, V3.cell? ⟨bx, o, none⟩ = some u → V'.cell? ⟨bx, o, none⟩ = some u := fun o u h => hgr.cell h fun e => HFR.out (x.f.id) bx e.symm rfl
          have S6 : V'.cell? ⟨bx, 0, none⟩ = some (.slice x.p x.f.path.length x.c) ∧ V'.cell? ⟨bx, 1, none⟩ = some (.string x.f.id) ∧ V'.cell? ⟨bx, 2, none⟩ = some (.string x.f.title) ∧ V'.cell? ⟨bx, 3, none⟩ = some (.string x.f.link) ∧ V'.cell? ⟨bx, 4, none⟩ = some (.int .i64 x.f.upd) ∧ V'.cell? ⟨bx, 5, none⟩ = some (.slice x.q x.f.ents.length x.d) ∧ GpMap V' b f := by
            obtain ⟨z0, z1, z2, z3, z4, z5, z6⟩ := SD3
            exact ⟨hfar _ _ z0, hfar _ _ z1, hfar _ _ z2, hfar _ _ z3, hfar _ _ z4, hfar _ _ z5, hm6⟩
          refine hK _ _ S6 ?_
          clear hK K'
          try simp only [Act.put, List.setIfInBounds_toArray, List.set_cons_zero, List.set_cons_succ]
          refine anyL_ready (rs := [12]) (by kernel_rfl) (by simp) ?_
          refine AllL.last (o := { dst := none, op := Go.Op.mapUpdate 109 (Go.Operand.tmp 22) (Go.Operand.tmp 25) (Go.Operand.tmp 33), type := 0, pos := "combine.go:36", after := #[{ on := 0, ground := Go.Ground.data }, { on := 3, ground := Go.Ground.data }, { on := 11, ground := Go.Ground.data }, { on := 11, ground := Go.Ground.chain }, { on := 0, ground := Go.Ground.phase }, { on := 1, ground := Go.Ground.phase }, { on := 2, ground := Go.Ground.phase }, { on := 3, ground := Go.Ground.phase }, { on := 4, ground := Go.Ground.phase }, { on := 5, ground := Go.Ground.phase }, { on := 6, ground := Go.Ground.phase }, { on := 7, ground := Go.Ground.phase }, { on := 8, ground := Go.Ground.phase }, { on := 9, ground := Go.Ground.phase }, { on := 10, ground := Go.Ground.phase }, { on := 11, ground := Go.Ground.phase }], guard := none }) rfl (by decide) (fun K' hK => ?_)
          rw [if_pos (by rfl)]
          obtain ⟨V'', hrun, hm7, hg7⟩ := World.ownsMap.update hm6 gp_law Tryz.underlying109 (by unfold maxLen; omega) (Go.WideMaps.keyOf_string_mk Tryz.underlying9 hks) (show slElem (.slice (some ⟨g, 0, none⟩) ((grpG fcKey (l.take i) (x.f.id)).length + 1) cap) = some (.held _, []) from rfl)
          have hB7 := hG.below (x.f.id) D3.out (by omega) (Nat.le_trans (by omega) hG.size) hgr hg7
          have hG7 := hG.put (x := x) rfl rfl hgr hown hat hm7 hg7
          have HB7 := Lib.hid hB7
          have HG7 := Lib.hid hG7
          clear hm6 hm7 hg7 hgr hown hat hlt hB7 hG7 hG SD3 D3 M3 G3 S6 hfar
          go_simp
          refine hK _ _ ?_
          clear hK K' hrun
          try simp only [Act.put, List.setIfInBounds_toArray, List.set_cons_zero, List.set_cons_succ]
          refine anyL_done (by kernel_rfl) ?_ _
          go_wp2
          go_roundw
          case rel => exact ⟨i + 1, _ :: f, by omega, by go_num, congrArg (· + 1) hfl, by rw [HTK.out]; exact HG7.out, HB7.out⟩
          case measure => simp [RowKit.intOf]; omega
      · rw [if_pos (by rfl)]
        go_simp
        obtain ⟨V1, hV1⟩ : ∃ V, V = Wd.alloc (.cells #[.slice x.p x.f.path.length x.c, .string x.f.id, .string x.f.title, .string x.f.link, .int .i64 x.f.upd, .slice x.q x.f.ents.length x.d] 35) := ⟨_, rfl⟩
        obtain ⟨bq, hbq⟩ : ∃ n, n = Wd.heap.size := ⟨_, rfl⟩
        have bb : Below Wd.heap.size Wd V1 := by rw [hV1]; exact (Below.refl _ _).alloc (Nat.le_refl _) _
        have M1 : MBlk V1 bq #[.slice x.p x.f.path.length x.c, .string x.f.id, .string x.f.title, .string x.f.link, .int .i64 x.f.upd, .slice x.q x.f.ents.length x.d] 35 := by rw [hV1, hbq]; exact heap_alloc_new _ _
        have SD1 := HSB.out _ _ bb SD0
        have D1 := Lib.hid (D0.out.trans (bb.mono D0.out.size))
        have G1 := Lib.hid (G0.out.more bb)
        simp only [← hV1, ← hbq]
        refine hK _ _ SD1 ?_
        clear hK K' hV1 hbq bb SD0 D0 G0
        try simp only [Act.put, List.setIfInBounds_toArray, List.set_cons_zero, List.set_cons_succ]
        refine anyL_ready (rs := [3]) (by kernel_rfl) (by simp) ?_
        refine AllL.cons (o := { dst := some 25, op := Go.Op.call { callee := Go.Callee.value (Go.Operand.tmp 23), args := #[Go.Operand.tmp 24], argTypes := #[35] }, type := 9, pos := "combine.go:36", after := #[{ on := 1, ground := Go.Ground.data }, { on := 2, ground := Go.Ground.data }], guard := none }) rfl (fun K' hK => ?_) AllL.nil
        rw [if_pos (by rfl)]
        go_simp
        go_at_call 62
        refine (cI _).mono ?_
        rintro e2 V2 ⟨rfl, bb⟩
        have SD2 := HSB.out _ _ bb SD1
        have D2 := Lib.hid (D1.out.trans (bb.mono D1.out.size))
        have G2 := Lib.hid (G1.out.more bb)
        have M2 := M1.more bb
        refine hK _ _ SD2 ?_
        clear hK K' bb SD1 D1 G1 M1
        try simp only [Act.put, List.setIfInBounds_toArray, List.set_cons_zero, List.set_cons_succ]
        refine anyL_ready (rs := [7]) (by kernel_rfl) (by simp) ?_
        refine AllL.cons (o := { dst := some 29, op := Go.Op.call { callee := Go.Callee.value (Go.Operand.tmp 27), args := #[Go.Operand.tmp 28], argTypes := #[35] }, type := 9, pos := "combine.go:36", after := #[{ on := 5, ground := Go.Ground.data }, { on := 6, ground := Go.Ground.data }, { on := 3, ground := Go.Ground.chain }], guard := none }) rfl (fun K' hK => ?_) AllL.nil
        rw [if_pos (by rfl)]
        go_simp
        go_at_call 62
        refine (cI _).mono ?_
        rintro e3 V3 ⟨rfl, bb⟩
        have SD3 := HSB.out _ _ bb SD2
        have D3 := Lib.hid (D2.out.trans (bb.mono D2.out.size))
        have G3 := Lib.hid (G2.out.more bb)
        have M3 := M2.more bb
        refine hK _ _ SD3 ?_
        clear hK K' bb SD2 D2 G2 M2
        try simp only [Act.put, List.setIfInBounds_toArray, List.set_cons_zero, List.set_cons_succ]
        refine anyL_take (i := 8) (oi := { dst := some 30, op := Go.Op.lookup 109 (Go.Operand.tmp 26) (Go.Operand.tmp 29) false, type := 37, pos := "combine.go:36", after := #[{ on := 4, ground := Go.Ground.data }, { on := 7, ground := Go.Ground.data }], guard := none }) (v := ?_) rfl (by decide) (by kernel_rfl) (by kernel_rfl) (by kernel_rfl) (by kernel_rfl) (fun _ _ _ h => h) (Or.inl ⟨by rfl, ?_⟩) SD3 ?_
        rotate_left
        · intro wz hSz
          obtain ⟨z0, z1, z2, z3, z4, z5, z6⟩ := hSz
          have hlk := z6.look Tryz.underlying109 (nz_zeroSF wz) (x.f.id) hks
          go_simp
          (try with_reducible rfl)
        try simp only [Act.put, List.setIfInBounds_toArray, List.set_cons_zero, List.set_cons_succ]
        refine anyL_ready (rs := [11]) (by kernel_rfl) (by simp) ?_
        refine AllL.cons (o := { dst := some 33, op := Go.Op.call { callee := Go.Callee.builtin Go.Builtin.append, args := #[Go.Operand.tmp 30, Go.Operand.tmp 32], argTypes := #[37, 37] }, type := 37, pos := "combine.go:36", after := #[{ on := 8, ground := Go.Ground.data }, { on := 10, ground := Go.Ground.data }, { on := 7, ground := Go.Ground.chain }], guard := none }) rfl (fun K' hK => ?_) AllL.nil
        rw [if_pos (by rfl)]
        have hG := G3.out
        refine wp_append_lies _ (.tmp 30) (.tmp 32) 37 rfl (b + 1) 35 i0 (.agg #[.slice none 0 0, .string ⟨#[]⟩, .string ⟨#[]⟩, .string ⟨#[]⟩, .int .i64 0, .slice none 0 0]) 6 104 Tryz.underlying37 hi0 hi1 hi3 hi4 rfl (by decide) ((gpF f (x.f.id)).getD (.slice none 0 0)) (grpG fcKey (l.take i) (x.f.id)).length (rowC fcCells (grpG fcKey (l.take i) (x.f.id))) rfl (hG.at _) ⟨bq, 0, none⟩ 1 1 [.slice x.p x.f.path.length x.c, .string x.f.id, .string x.f.title, .string x.f.link, .int .i64 x.f.upd, .slice x.q x.f.ents.length x.d] rfl rfl (World.news_of_block M3) h1c (by decide) (by unfold maxLen; omega) (by omega) hG.size _ rfl ?_
        intro g cap V' hown hgr hat hlt
        have hm6 : GpMap V' b f := hG.map.same (hgr.block b hG.map.lt fun e => by have := ((hG.at (x.f.id)).lt b e.symm).1; omega)
        have hfar : ∀ o u, V3.cell? ⟨bx, o, none⟩ = some u → V'.cell? ⟨bx, o, none⟩ = some u := fun o u h => hgr.cell h fun e => HFR.out (x.f.id) bx e.symm rfl
        have S6 : V'.cell? ⟨bx, 0, none⟩ = some (.slice x.p x.f.path.length x.c) ∧ V'.cell? ⟨bx, 1, none⟩ = some (.string x.f.id) ∧ V'.cell? ⟨bx, 2, none⟩ = some (.string x.f.title) ∧ V'.cell? ⟨bx, 3, none⟩ = some (.string x.f.link) ∧ V'.cell? ⟨bx, 4, none⟩ = some (.int .i64 x.f.upd) ∧ V'.cell? ⟨bx, 5, none⟩ = some (.slice x.q x.f.ents.length x.d) ∧ GpMap V' b f := by
          obtain ⟨z0, z1, z2, z3, z4, z5, z6⟩ := SD3
          exact ⟨hfar _ _ z0, hfar _ _ z1, hfar _ _ z2, hfar _ _ z3, hfar _ _ z4, hfar _ _ z5, hm6⟩
        refine hK _ _ S6 ?_
        clear hK K'
        try simp only [Act.put, List.setIfInBounds_toArray, List.set_cons_zero, List.set_cons_succ]
        refine anyL_ready (rs := [12]) (by kernel_rfl) (by simp) ?_
        refine AllL.last (o := { dst := none, op := Go.Op.mapUpdate 109 (Go.Operand.tmp 22) (Go.Operand.tmp 25) (Go.Operand.tmp 33), type := 0, pos := "combine.go:36", after := #[{ on := 0, ground := Go.Ground.data }, { on := 3, ground := Go.Ground.data }, { on := 11, ground := Go.Ground.data }, { on := 11, ground := Go.Ground.chain }, { on := 0, ground := Go.Ground.phase }, { on := 1, ground := Go.Ground.phase }, { on := 2, ground := Go.Ground.phase }, { on := 3, ground := Go.Ground.phase }, { on := 4, ground := Go.Ground.phase }, { on := 5, ground := Go.Ground.phase }, { on := 6, ground := Go.Ground.phase }, { on := 7, ground := Go.Ground.phase }, { on := 8, ground := Go.Ground.phase }, { on := 9, ground := Go.Ground.phase }, { on := 10, ground := Go.Ground.phase }, { on := 11, ground := Go.Ground.phase }], guard := none }) rfl (by decide) (fun K' hK => ?_)
        rw [if_pos (by rfl)]
        obtain ⟨V'', hrun, hm7, hg7⟩ := World.ownsMap.update hm6 gp_law Tryz.underlying109 (by unfold maxLen; omega) (Go.WideMaps.keyOf_string_mk Tryz.underlying9 hks) (show slElem (.slice (some ⟨g, 0, none⟩) ((grpG fcKey (l.take i) (x.f.id)).length + 1) cap) = some (.held _, []) from rfl)
        have hB7 := hG.below (x.f.id) D3.out (by omega) (Nat.le_trans (by omega) hG.size) hgr hg7
        have hG7 := hG.put (x := x) rfl rfl hgr hown hat hm7 hg7
        have HB7 := Lib.hid hB7
        have HG7 := Lib.hid hG7
        clear hm6 hm7 hg7 hgr hown hat hlt hB7 hG7 hG SD3 D3 M3 G3 S6 hfar
        go_simp
        refine hK _ _ ?_
        clear hK K' hrun
        try simp only [Act.put, List.setIfInBounds_toArray, List.set_cons_zero, List.set_cons_succ]
        refine anyL_done (by kernel_rfl) ?_ _
        go_wp2
        go_roundw
        case rel => exact ⟨i + 1, _ :: f, by omega, by go_num, congrArg (· + 1) hfl, by rw [HTK.out]; exact HG7.out, HB7.out⟩
        case measure => simp [RowKit.intOf]; omega
    · have hil : i = l.length := by omega
      subst hil
      have hiz : ¬ (l.length : Int) < (l.length : Int) := by omega
      rw [List.take_length] at hG
      obtain ⟨wo, rfl⟩ : ∃ wo, wo = wr := ⟨_, rfl⟩
      have hown : GpMap wo b f := hG.map
      have HG := Lib.hid hG
      have HBR := Lib.hid hbr
      have hfn : f.length ≤ 1000000 := by omega
      have hgl : ∀ q, (grpG fcKey l q).length ≤ 1000000 := fun q => Nat.le_trans (List.length_filter_le ..) hn
      have HGL := Lib.hid hgl
      have hLo : ∀ j ∈ L, j < wo.heap.size := fun j hj => Nat.lt_of_lt_of_le (HLW.out j hj) hzr
      have HLO := Lib.hid hLo
      clear hG hbr hfl hgl hLo
      go_wp2_with (first | (at_range; refine wpList_range_own _ rfl _ 109 rfl 9 37 gp_law Tryz.underlying109 slElem b f.length (gpD f) rfl hown ?_; intro w0 hrg0 hg0 hs0) | go_in)
      (try go_frame)
      go_loopw [12] (fun u wr => ∃ (done : List ByteArray) (outs : List FC) (v : Value) (left : Lit → Bool) (cnt : Nat), v = u ∧ wr.ranges Tryz.prog 9 slElem b wo.heap.size f.length (gpD f) left cnt ∧ RgAt f done left ∧ PairL (fun q y => lateG mgF ((grpG fcKey l q).map FC.f) = some y.f) done outs ∧ OutAt 35 6 fcCells fcOk (wo.heap.size + 1) (wo.heap.size :: L) v outs wr ∧ Below wo.heap.size wo wr) (fun _ wr => wr.rangeLeft b wo.heap.size)
      case atStart => exact ⟨[], [], _, _, _, rfl, hrg0, RgAt.start f, .nil, OutAt.nil w0 (by omega), (Below.refl wo.heap.size wo).grown hg0 (Nat.le_refl _) (fun j hj => by cases hj)⟩
      case round =>
        clear hown hrg0 hg0 hs0
        obtain ⟨done, outs, v, left, cnt, rfl, hrg, hRg, hP, hO, hbo⟩ := hrel
        have hG2 := HG.out.more hbo
        have hmem : ∀ q, q ∈ done → gpF f q ≠ none := hRg.mem
        have hlen : outs.length ≤ 1000000 := by
          rw [hP.len]
          exact Nat.le_trans (keys_le hRg.nodup hmem HG.out.void) hn
        have HRg := Lib.hid hRg
        have HP := Lib.hid hP
        have HO2 := Lib.hid hO
        have HBO := Lib.hid hbo
        have HLEN := Lib.hid hlen
        clear hRg hP hO hmem hG2
        go_wp2_with (first | (at_next; refine wpList_next_ranges _ rfl _ rfl 9 gp_law slElem id id (fun key _ _ => ⟨key, rfl⟩) (fun v _ _ => ⟨v, rfl⟩) b wo.heap.size f.length _ _ _ rfl hrg ?_ ?_) | go_in)
        · intro _ hl0
          have hds := HRg.out.all hl0
          have cS := nz_sortF outs v wr _ (wo.heap.size :: L) HO2.out.row (by omega) HO2.out.ok (pairF_len HP.out HE.out)
          have HF : Hid (∀ os' w', os'.Perm outs → (os'.Pairwise fun a b => ¬ cmpF b.f a.f < 0) → NewRow 6 fcCells (wo.heap.size + 1) v os' w' → wr.grownBy w' v.ownBlock → (∃ ys, ys.map FC.f = addsG FeedD.id cmpF mgF [] (l.map FC.f) ∧ NewRow 6 fcCells w.heap.size v ys w' ∧ (∀ y ∈ ys, fcOk (holes w' L) y) ∧ Below w.heap.size w w')) := fun os' w' hp hs hN hg => by
            have hB := HBR.out.trans (HBO.out.mono HBR.out.size)
            refine ⟨os', grpF_ok HRg.out.nodup hds HG.out.void HP.out hp hs, hN.mono (by have := HBR.out.size; omega), fun y hy => ?_, hB.grown hg hB.size fun j hj => by have := (HO2.out.row.lt j hj).1; have := HBR.out.size; omega⟩
            refine fcOk_mono _ _ y (Goes.both ?_) (HO2.out.ok y (hp.mem_iff.1 hy))
            exact fun j hj hn => ⟨fun e => hn (List.mem_append_right _ (List.mem_cons_of_mem _ e)), hg.block j hj fun e => hn (by rw [← e]; simp)⟩
          clear hrg hbo hlen hl0 hds
          go_wp2_with (go_at_call 78; refine cS.mono ?_; rintro e w' ⟨rfl, os', hp, hs, hN, hg⟩)
          go_ret
          obtain ⟨ys, k1, k2, k3, k4⟩ := HF.out os' _ hp hs hN hg
          exact ⟨_, ys, rfl, k1, k2, k3, k4⟩
        · intro x c kl yd yp w1 cnt1 hkey hlx hv hat hrg1 hlt hg1 hs1 hen
          obtain ⟨q, hq1, hq2⟩ := gp_inv hkey
          subst hq2
          obtain ⟨hnq, hsome, hRg1⟩ := HRg.out.step hlx
          obtain ⟨vq, hvq⟩ := Option.isSome_iff_exists.1 hsome
          have hcv : c = vq := by
            have h1 := hat (.held c)
            rw [gpD_at, hvq] at h1
            simp only [slElem, Option.some.injEq, Prod.mk.injEq] at hv
            exact DataW.held.inj (hv.1.trans h1.symm)
          subst hcv
          have hrow := HG.out.row q c hvq
          have hne : grpG fcKey l q ≠ [] := fun e => by
            have := (HG.out.void q).2 e
            rw [hvq] at this
            cases this
          obtain ⟨g, cap, rfl, hgb, hgl⟩ := hrow.form (List.length_pos_iff.2 hne)
          have hcap : (grpG fcKey l q).length ≤ cap := by
            rcases hrow.2 with ⟨e, -⟩ | ⟨g', cap', cur, e, -, -, hc, -⟩
            · cases e
            · cases e; exact hc
          have hbo1 : Below wo.heap.size wo w1 := HBO.out.grown hg1 HBO.out.size (fun j hj => by cases hj; exact Nat.le_refl _)
          have hrw := RwAt.of_owns (k := 6) fcCells_len (nrow_more hrow hbo1) rfl
          have hO1 := HO2.out.kept fcOk_mono hg1 (List.mem_cons_self) (Nat.lt_succ_self _)
          have hbw1 := HBR.out.trans (hbo1.mono HBR.out.size)
          obtain ⟨vb, hvb⟩ : ∃ vb, vb = v.ownBlock.toList ++ (wo.heap.size :: L) := ⟨_, rfl⟩
          have hwz : wo.heap.size < w1.heap.size := hrg1.lt
          have hvl : ∀ j ∈ vb, j < w1.heap.size := fun j hj => by
            rw [hvb] at hj
            rcases List.mem_append.1 hj with hj | hj
            · exact (hO1.row.lt j (by simpa using hj)).2
            · rcases List.mem_cons.1 hj with rfl | hj
              · exact hwz
              · have := HLO.out j hj
                omega
          have hgo : ∀ x ∈ grpG fcKey l q, fcOk (holes w1 vb) x := fun x hx => fcOk_mono _ _ x (Goes.both (fun j hj hn => ⟨fun e => by
              rw [hvb] at e
              rcases List.mem_append.1 e with e | e
              · have := (hO1.row.lt j (by simpa using e)).1
                have := HBR.out.size
                omega
              · rcases List.mem_cons.1 e with rfl | e
                · have := HBR.out.size
                  omega
                · exact hn e, hbw1.block j hj⟩)) (HO.out x ((mem_grpG l q x).1 hx).1)
          have hgood : ∀ x ∈ grpG fcKey l q, FcGood x := fun x hx => HE.out x ((mem_grpG l q x).1 hx).1
          have cJ := nz_joinF q (grpG fcKey l q) (some ⟨g, 0, none⟩) cap w1 vb hrw hne hgo hvl hcap (Nat.le_trans (List.length_filter_le ..) hn) hgood (fun x hx => ((mem_grpG l q x).1 hx).2) (Nat.le_trans (filter_flat _ _ l) HTO.out) (TabW_below HT.out hbw1)
          skip
          have HRG1 := Lib.hid hRg1
          have HRGS := Lib.hid hrg1
          have HO1 := Lib.hid hO1
          have HB1 := Lib.hid hbo1
          have HVB := Lib.hid hvb
          have HGS := Lib.hid hg1
          have HRGO := Lib.hid hrg
          have HLT := Lib.hid hlt
          have HBLT := Lib.hid HG.out.lt
          clear hRg1 hrg1 hO1 hbo1 hvb hg1 hrg hlt hcap hrw hgo hgood hvl hbw1 hwz hrow hne hgb hgl hsome hnq hat hv hkey hlx hvq hs1 hbo hlen
          go_wp2_with fail
          refine cJ.mono ?_
          rintro e w4 ⟨y, rfl, hJ, hOk4, b4⟩
          have HY := Lib.hid hJ
          clear hJ
          have hO4 := HO1.out.more fcOk_mono b4
          rw [HVB.out] at hOk4
          obtain ⟨W6, hW6⟩ : ∃ W6, W6 = w4.alloc (.cells #[.slice y.p y.f.path.length y.c, .string y.f.id, .string y.f.title, .string y.f.link, .int .i64 y.f.upd, .slice y.q y.f.ents.length y.d] 35) := ⟨_, rfl⟩
          have hb6 : Below w4.heap.size w4 W6 := by rw [hW6]; exact (Below.refl _ _).alloc (Nat.le_refl _) _
          have hnews : ∀ j u, ([.slice y.p y.f.path.length y.c, .string y.f.id, .string y.f.title, .string y.f.link, .int .i64 y.f.upd, .slice y.q y.f.ents.length y.d] : List Value)[j]? = some u → W6.cell? ((⟨w4.heap.size, 0, none⟩ : Addr).add j) = some u := by
            rw [hW6]
            exact World.news_of_block (heap_alloc_new w4 (.cells #[.slice y.p y.f.path.length y.c, .string y.f.id, .string y.f.title, .string y.f.link, .int .i64 y.f.upd, .slice y.q y.f.ents.length y.d] 35))
          have hO6 := hO4.more fcOk_mono hb6
          have hOk6 := fcOk_mono _ _ y (Goes.below hb6).both hOk4
          have hB6 := HB1.out.trans ((b4.trans (hb6.mono b4.size)).mono HB1.out.size)
          have hbg : w1.grownBy W6 none := ⟨(b4.trans (hb6.mono b4.size)).os, (b4.trans (hb6.mono b4.size)).tape, (b4.trans (hb6.mono b4.size)).output, (b4.trans (hb6.mono b4.size)).size, fun k hk _ => (b4.trans (hb6.mono b4.size)).block k hk⟩
          have hR6 := HRGS.out.kept hbg (by simp) (by simp)
          have hrow6 := hO6.row
          have h1c : ∀ u ∈ ([.slice y.p y.f.path.length y.c, .string y.f.id, .string y.f.title, .string y.f.link, .int .i64 y.f.upd, .slice y.q y.f.ents.length y.d] : List Value), u.oneCell' = true := by
            intro u hu
            simp only [List.mem_cons, List.not_mem_nil, or_false] at hu
            rcases hu with rfl | rfl | rfl | rfl | rfl | rfl <;> rfl
          have hBw6 : wo.heap.size + 1 ≤ W6.heap.size := hO6.size
          have hLN : ([.slice y.p y.f.path.length y.c, .string y.f.id, .string y.f.title, .string y.f.link, .int .i64 y.f.upd, .slice y.q y.f.ents.length y.d] : List Value).length = 1 * 6 := rfl
          have hyz := HLEN.out
          have HO6 := Lib.hid hO6
          have HOk6 := Lib.hid hOk6
          have HB6 := Lib.hid hB6
          have HR6 := Lib.hid hR6
          clear hOk4 hO4 b4 hO6 hOk6 hB6 hR6 hbg cJ hb6 HVB
          subst hW6
          go_wp2_with (at_builtin; refine wpList_append_lies _ rfl (.tmp 41) (.tmp 45) 37 rfl (wo.heap.size + 1) 35 i0 (.agg #[.slice none 0 0, .string ⟨#[]⟩, .string ⟨#[]⟩, .string ⟨#[]⟩, .int .i64 0, .slice none 0 0]) 6 104 Tryz.underlying37 hi0 hi1 hi3 hi4 rfl (by decide) v outs.length (rowC fcCells outs) rfl hrow6 ⟨w4.heap.size, 0, none⟩ 1 1 [.slice y.p y.f.path.length y.c, .string y.f.id, .string y.f.title, .string y.f.link, .int .i64 y.f.upd, .slice y.q y.f.ents.length y.d] rfl hLN hnews h1c (by decide) (by unfold maxLen; omega) (by omega) hBw6 _ rfl ?_; intro g7 cap7 w7 hown7 hgr7 hat7 hlt7)
          have hv7 : ∀ j, v.ownBlock = some j → wo.heap.size + 1 ≤ j := fun j hj => (HO6.out.row.lt j hj).1
          have HN2 := Lib.hid (HO6.out.put fcOk_mono HOk6.out rfl hown7 hgr7 hat7)
          have HB7 := Lib.hid (HB6.out.grown hgr7 HB6.out.size fun j hj => by have := hv7 j hj; omega)
          have HR7 := Lib.hid (HR6.out.kept hgr7 (fun e => by have := hv7 b e.symm; have := HBLT.out; have := HG.out.size; omega) (fun e => by have := hv7 _ e.symm; omega))
          have HMS : Hid (w7.rangeLeft b wo.heap.size < wr.rangeLeft b wo.heap.size) := Lib.hid (by rw [HR7.out.left_eq, HRGO.out.left_eq]; exact HLT.out)
          clear hown7 hgr7 hat7 hlt7 hnews hrow6 h1c HO6 HOk6 HB6 HR6 hv7
          go_wp2
          go_roundw
          case rel => exact ⟨done ++ [q], outs ++ [y], _, _, _, rfl, HR7.out, HRG1.out, HP.out.snoc HY.out, HN2.out, HB7.out⟩
          case measure => exact HMS.out
set_option maxRecDepth 100000 in
theorem nz_combineFeeds (l : List FC) (p : Option Addr) (c : Nat) (w : World) (L : List Nat) (hl : RwAt 6 fcCells w p l) (hOk : ∀ x ∈ l, fcOk (holes w L) x) (hLw : ∀ j ∈ L, j < w.heap.size) (hn : l.length ≤ 1000000) (hE : ∀ x ∈ l, FcGood x) (ht : (l.flatMap fun x => x.f.ents).length ≤ 1000000) (hT : TabW w) :
    Calls Tryz.prog 43 #[.slice p l.length c] w fun e w' => ∃ v ys, e = .returned v ∧ ys.map FC.f = addsG FeedD.id cmpF mgF [] (l.map FC.f) ∧ NewRow 6 fcCells w.heap.size v ys w' ∧ (∀ y ∈ ys, fcOk (holes w' L) y) ∧ Below w.heap.size w w' := by
  have cC := nz_combineF l p c w L hl hOk hLw hn hE ht hT
  clear hl hOk hLw hE ht hT
  go_enter Tryz.func43, Tryz.ntmps43
  go_wp2_with fail
  refine cC.mono ?_
  rintro e w2 ⟨v, ys, rfl, h1, hN, h2, hB⟩
  have H1 := Lib.hid h1
  have H2 := Lib.hid h2
  have HN := Lib.hid hN
  have HB := Lib.hid hB
  clear h1 h2 hN hB cC
  go_wp2
  go_ret
  exact ⟨_, ys, rfl, H1.out, HN.out, H2.out, HB.out⟩
end Go.Proofs.YtbfalppeifkjdaaGreatDoor
end
