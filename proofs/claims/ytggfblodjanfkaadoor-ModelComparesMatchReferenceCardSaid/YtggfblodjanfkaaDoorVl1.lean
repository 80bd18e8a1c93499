/- Packed from the texts MdI MdJ. -/
import Derived.Test.YtggfblodjanfkaaDoorVk7
section
namespace Go.Proofs.YtggfblodjanfkaaDoor
open Go.RowKit
def ltB (a b : EntD) : Bool := decide (a.upd < b.upd) || (decide (a.upd = b.upd) && Op.bytesLess (ekL a) (ekL b))
def ltE (a b : EntD) : EntD := if ltB a b = true then b else a
theorem gt_less (a b : List UInt8) : (!(Op.bytesLess (ofBytes b).toList (ofBytes a).toList || (ofBytes b).toList == (ofBytes a).toList)) = Op.bytesLess a b := by
  rw [ByteArray.toList_eq, ByteArray.toList_eq, ofBytes_list, ofBytes_list]
  by_cases h : b = a
  · subst h
    rw [bl_irr, beq_self_eq_true]
    rfl
  · rw [beq_eq_false_iff_ne.2 h, Bool.or_false]
    rcases h1 : Op.bytesLess b a with _ | _
    · rcases h2 : Op.bytesLess a b with _ | _
      · exact absurd (bl_total b a h1 h2) h
      · rfl
    · rw [bl_asym b a h1]
      rfl
def MBlk (w : World) (b : Nat) (cs : Array Value) (T : TypeId) : Prop := w.heap[b]? = some (.cells cs T (0, 0))
theorem MBlk.lt {w : World} {b : Nat} {cs : Array Value} {T : TypeId} (h : MBlk w b cs T) : b < w.heap.size := (Array.getElem?_eq_some_iff.1 h).1
theorem MBlk.cell {w : World} {b : Nat} {cs : Array Value} {T : TypeId} (h : MBlk w b cs T) (o : Nat) : w.cell? ⟨b, o, none⟩ = cs[o]? := cell_of_row w b o _ _ _ h
theorem MBlk.fr {w : World} {b : Nat} {cs : Array Value} {T : TypeId} (h : MBlk w b cs T) (o : Nat) : w.frozen? ⟨b, o, none⟩ = false := frozen_of_row w b o _ _ h
theorem MBlk.more {w w' : World} {b : Nat} {cs : Array Value} {T : TypeId} (h : MBlk w b cs T) (k : Below w.heap.size w w') : MBlk w' b cs T := (k.block b h.lt).trans h
theorem mset_same {w : World} {p : Addr} (v : Value) (h : (w.cell? p).isSome = true) : (w.setCell p v).cell? p = some v := by
  obtain ⟨u, hu⟩ := Option.isSome_iff_exists.mp h
  exact World.cell?_setCell_same w p v hu
set_option maxRecDepth 100000 in
set_option maxHeartbeats 8000000 in
theorem mref_LaterEntry (x y : EntD) (w : World) (k1 : ∀ wx, Calls Tryd.prog 18 #[EntV x] wx fun e w' => e = .returned (.string (ofBytes (ekL x))) ∧ Below wx.heap.size wx w') (k2 : ∀ wx, Calls Tryd.prog 18 #[EntV y] wx fun e w' => e = .returned (.string (ofBytes (ekL y))) ∧ Below wx.heap.size wx w') :
    Calls Tryd.prog 22 #[EntV x, EntV y] w fun e w' => e = .returned (EntV (ltE x y)) ∧ Below w.heap.size w w' := by
  obtain ⟨W3, hW3⟩ : ∃ W3, W3 = ((w.alloc (.cells #[.string x.id, .string x.title, .string x.link, .string x.content, .int .i64 x.upd] 29)).alloc (.cells #[.string y.id, .string y.title, .string y.link, .string y.content, .int .i64 y.upd] 29)).alloc (.cells #[.string ⟨#[]⟩, .string ⟨#[]⟩, .string ⟨#[]⟩, .string ⟨#[]⟩, .int .i64 0] 29) := ⟨_, rfl⟩
  have hB : Below w.heap.size w W3 := by rw [hW3]; exact (((Below.refl _ _).alloc (Nat.le_refl _) _).alloc (by simp) _).alloc (by simp; omega) _
  have hX : EBox W3 w.heap.size x := by rw [hW3]; exact ((EBox.new w x).below ((Below.refl _ _).alloc (Nat.le_refl _) _)).below ((Below.refl _ _).alloc (Nat.le_refl _) _)
  have hY : EBox W3 (w.heap.size + 1) y := by
    have := EBox.new (w.alloc (.cells #[.string x.id, .string x.title, .string x.link, .string x.content, .int .i64 x.upd] 29)) y
    rw [World.size_alloc] at this
    rw [hW3]
    exact this.below ((Below.refl _ _).alloc (Nat.le_refl _) _)
  have hR : MBlk W3 (w.heap.size + 2) #[.string ⟨#[]⟩, .string ⟨#[]⟩, .string ⟨#[]⟩, .string ⟨#[]⟩, .int .i64 0] 29 := by
    have := heap_alloc_new ((w.alloc (.cells #[.string x.id, .string x.title, .string x.link, .string x.content, .int .i64 x.upd] 29)).alloc (.cells #[.string y.id, .string y.title, .string y.link, .string y.content, .int .i64 y.upd] 29)) (.cells #[.string ⟨#[]⟩, .string ⟨#[]⟩, .string ⟨#[]⟩, .string ⟨#[]⟩, .int .i64 0] 29)
    rw [World.size_alloc, World.size_alloc] at this
    rw [hW3]
    exact this
  have hfin : ∀ wx : World, Below W3.heap.size W3 wx → MBlk wx (w.heap.size + 2) #[.string ⟨#[]⟩, .string ⟨#[]⟩, .string ⟨#[]⟩, .string ⟨#[]⟩, .int .i64 0] 29 ∧ EBox wx w.heap.size x ∧ EBox wx (w.heap.size + 1) y ∧ Below w.heap.size w wx := fun wx hb => ⟨hR.more hb, hX.below hb, hY.below hb, hB.trans (hb.mono hB.size)⟩
  have hset : ∀ (wx : World) (z : EntD), Below w.heap.size w wx → Below w.heap.size w (((((wx.setCell ⟨w.heap.size + 2, 0, none⟩ (.string z.id)).setCell ⟨w.heap.size + 2, 1, none⟩ (.string z.title)).setCell ⟨w.heap.size + 2, 2, none⟩ (.string z.link)).setCell ⟨w.heap.size + 2, 3, none⟩ (.string z.content)).setCell ⟨w.heap.size + 2, 4, none⟩ (.int .i64 z.upd)) := fun wx z hb => ((((hb.setCell (p := ⟨w.heap.size + 2, 0, none⟩) (by show _ ≤ w.heap.size + 2; omega) _).setCell (p := ⟨w.heap.size + 2, 1, none⟩) (by show _ ≤ w.heap.size + 2; omega) _).setCell (p := ⟨w.heap.size + 2, 2, none⟩) (by show _ ≤ w.heap.size + 2; omega) _).setCell (p := ⟨w.heap.size + 2, 3, none⟩) (by show _ ≤ w.heap.size + 2; omega) _).setCell (p := ⟨w.heap.size + 2, 4, none⟩) (by show _ ≤ w.heap.size + 2; omega) _
  have HS := Lib.hid hset
  have HF := Lib.hid hfin
  obtain ⟨e0, e1, e2, e3, e4⟩ := hX
  obtain ⟨f0, f1, f2, f3, f4⟩ := hY
  have hgt := gt_less (ekL x) (ekL y)
  unfold ltE ltB
  unfold EntV at k1 k2
  generalize ofBytes (ekL x) = kx at *
  generalize ofBytes (ekL y) = ky at *
  generalize Op.bytesLess (ekL x) (ekL y) = q at *
  clear hB hfin hset hR
  by_cases h1 : x.upd < y.upd
  · rw [decide_eq_true h1, Bool.true_or, if_pos rfl]
    clear k1 k2 hgt
    unfold EntV
    go_enter Tryd.func22, Tryd.ntmps22
    go_upto_region 1 with fail
    simp only [← hW3]
    clear hW3
    go_wp2
    go_quiet (fail)
    clear e0 e1 e2 e3 e4 f0 f1 f2 f3 f4
    obtain ⟨hR, hX, hY, hB⟩ := HF.out _ (mdrewN (Below.refl _ _) nq)
    obtain ⟨e0, e1, e2, e3, e4⟩ := hX
    obtain ⟨f0, f1, f2, f3, f4⟩ := hY
    have r0 := hR.cell 0
    have r1 := hR.cell 1
    have r2 := hR.cell 2
    have r3 := hR.cell 3
    have r4 := hR.cell 4
    simp only [List.getElem?_toArray, List.getElem?_cons_zero, List.getElem?_cons_succ] at r0 r1 r2 r3 r4
    have t0 := hR.fr 0
    have t1 := hR.fr 1
    have t2 := hR.fr 2
    have t3 := hR.fr 3
    have t4 := hR.fr 4
    have HBB := Lib.hid (HS.out _ y hB)
    clear hR hB HF HS
    go_wp2
    exact bodyPost_ret (v := .agg #[.string y.id, .string y.title, .string y.link, .string y.content, .int .i64 y.upd]) (by simp [results, Tryd.results22, go_sem, mset_same, r0, r1, r2, r3, r4]) rfl ⟨rfl, HBB.out⟩
  · rw [decide_eq_false h1, Bool.false_or]
    by_cases h2 : x.upd = y.upd
    · rw [decide_eq_true h2, Bool.true_and]
      rw [← h2] at f4 hW3
      rw [← h2] at k2
      cases q
      · rw [if_neg (by simp)]
        unfold EntV
        rw [← h2]
        have H2 := Lib.hid h2
        clear h2
        go_enter Tryd.func22, Tryd.ntmps22
        go_upto_region 1 with fail
        simp only [← hW3]
        clear hW3
        go_wp2
        have S0 : (W3.drew.cell? ⟨w.heap.size, 0, none⟩ = some (.string x.id) ∧ W3.drew.cell? ⟨w.heap.size, 1, none⟩ = some (.string x.title) ∧ W3.drew.cell? ⟨w.heap.size, 2, none⟩ = some (.string x.link) ∧ W3.drew.cell? ⟨w.heap.size, 3, none⟩ = some (.string x.content) ∧ W3.drew.cell? ⟨w.heap.size, 4, none⟩ = some (.int .i64 x.upd)) ∧ (W3.drew.cell? ⟨w.heap.size + 1, 0, none⟩ = some (.string y.id) ∧ W3.drew.cell? ⟨w.heap.size + 1, 1, none⟩ = some (.string y.title) ∧ W3.drew.cell? ⟨w.heap.size + 1, 2, none⟩ = some (.string y.link) ∧ W3.drew.cell? ⟨w.heap.size + 1, 3, none⟩ = some (.string y.content) ∧ W3.drew.cell? ⟨w.heap.size + 1, 4, none⟩ = some (.int .i64 x.upd)) := ⟨⟨e0, e1, e2, e3, e4⟩, ⟨f0, f1, f2, f3, f4⟩⟩
        have hSB : ∀ x1 x2 : World, Below x1.heap.size x1 x2 → ((x1.cell? ⟨w.heap.size, 0, none⟩ = some (.string x.id) ∧ x1.cell? ⟨w.heap.size, 1, none⟩ = some (.string x.title) ∧ x1.cell? ⟨w.heap.size, 2, none⟩ = some (.string x.link) ∧ x1.cell? ⟨w.heap.size, 3, none⟩ = some (.string x.content) ∧ x1.cell? ⟨w.heap.size, 4, none⟩ = some (.int .i64 x.upd)) ∧ (x1.cell? ⟨w.heap.size + 1, 0, none⟩ = some (.string y.id) ∧ x1.cell? ⟨w.heap.size + 1, 1, none⟩ = some (.string y.title) ∧ x1.cell? ⟨w.heap.size + 1, 2, none⟩ = some (.string y.link) ∧ x1.cell? ⟨w.heap.size + 1, 3, none⟩ = some (.string y.content) ∧ x1.cell? ⟨w.heap.size + 1, 4, none⟩ = some (.int .i64 x.upd))) → ((x2.cell? ⟨w.heap.size, 0, none⟩ = some (.string x.id) ∧ x2.cell? ⟨w.heap.size, 1, none⟩ = some (.string x.title) ∧ x2.cell? ⟨w.heap.size, 2, none⟩ = some (.string x.link) ∧ x2.cell? ⟨w.heap.size, 3, none⟩ = some (.string x.content) ∧ x2.cell? ⟨w.heap.size, 4, none⟩ = some (.int .i64 x.upd)) ∧ (x2.cell? ⟨w.heap.size + 1, 0, none⟩ = some (.string y.id) ∧ x2.cell? ⟨w.heap.size + 1, 1, none⟩ = some (.string y.title) ∧ x2.cell? ⟨w.heap.size + 1, 2, none⟩ = some (.string y.link) ∧ x2.cell? ⟨w.heap.size + 1, 3, none⟩ = some (.string y.content) ∧ x2.cell? ⟨w.heap.size + 1, 4, none⟩ = some (.int .i64 x.upd))) := fun x1 x2 hb h => by
          obtain ⟨⟨z0, z1, z2, z3, z4⟩, ⟨z5, z6, z7, z8, z9⟩⟩ := h
          exact ⟨⟨mcell hb z0, mcell hb z1, mcell hb z2, mcell hb z3, mcell hb z4⟩, ⟨mcell hb z5, mcell hb z6, mcell hb z7, mcell hb z8, mcell hb z9⟩⟩
        clear e0 e1 e2 e3 e4 f0 f1 f2 f3 f4
        go_region_held3 (fun w' => (w'.cell? ⟨w.heap.size, 0, none⟩ = some (.string x.id) ∧ w'.cell? ⟨w.heap.size, 1, none⟩ = some (.string x.title) ∧ w'.cell? ⟨w.heap.size, 2, none⟩ = some (.string x.link) ∧ w'.cell? ⟨w.heap.size, 3, none⟩ = some (.string x.content) ∧ w'.cell? ⟨w.heap.size, 4, none⟩ = some (.int .i64 x.upd)) ∧ (w'.cell? ⟨w.heap.size + 1, 0, none⟩ = some (.string y.id) ∧ w'.cell? ⟨w.heap.size + 1, 1, none⟩ = some (.string y.title) ∧ w'.cell? ⟨w.heap.size + 1, 2, none⟩ = some (.string y.link) ∧ w'.cell? ⟨w.heap.size + 1, 3, none⟩ = some (.string y.content) ∧ w'.cell? ⟨w.heap.size + 1, 4, none⟩ = some (.int .i64 x.upd))) (first | with_reducible exact S0 | with_reducible exact S5 | with_reducible exact S6) (first | (go_at_call 18; with_reducible refine (k1 _).mono ?_; rintro e w6 ⟨rfl, b6⟩; have S6 := hSB _ _ b6 S5) | (go_at_call 18; with_reducible refine (k2 _).mono ?_; rintro e w5 ⟨rfl, b5⟩; have S5 := hSB _ _ b5 S0))
        all_goals
          have b36 := ((Below.refl W3.heap.size W3).drew).trans (b5.trans (b6.mono b5.size))
          clear S0 S5 S6 hSB b5 b6
          obtain ⟨hR, hX, hY, hB⟩ := HF.out _ b36
          obtain ⟨e0, e1, e2, e3, e4⟩ := hX
          obtain ⟨f0, f1, f2, f3, f4⟩ := hY
          rw [← H2.out] at f4
          have r0 := hR.cell 0
          have r1 := hR.cell 1
          have r2 := hR.cell 2
          have r3 := hR.cell 3
          have r4 := hR.cell 4
          simp only [List.getElem?_toArray, List.getElem?_cons_zero, List.getElem?_cons_succ] at r0 r1 r2 r3 r4
          have t0 := hR.fr 0
          have t1 := hR.fr 1
          have t2 := hR.fr 2
          have t3 := hR.fr 3
          have t4 := hR.fr 4
          have HBB := Lib.hid (HS.out _ x hB)
          clear hR hB HF HS
          go_wp2
          exact bodyPost_ret (v := .agg #[.string x.id, .string x.title, .string x.link, .string x.content, .int .i64 x.upd]) (by simp [results, Tryd.results22, go_sem, mset_same, r0, r1, r2, r3, r4]) rfl ⟨rfl, HBB.out⟩
      · rw [if_pos rfl]
        unfold EntV
        rw [← h2]
        have H2 := Lib.hid h2
        clear h2
        go_enter Tryd.func22, Tryd.ntmps22
        go_upto_region 1 with fail
        simp only [← hW3]
        clear hW3
        go_wp2
        have S0 : (W3.drew.cell? ⟨w.heap.size, 0, none⟩ = some (.string x.id) ∧ W3.drew.cell? ⟨w.heap.size, 1, none⟩ = some (.string x.title) ∧ W3.drew.cell? ⟨w.heap.size, 2, none⟩ = some (.string x.link) ∧ W3.drew.cell? ⟨w.heap.size, 3, none⟩ = some (.string x.content) ∧ W3.drew.cell? ⟨w.heap.size, 4, none⟩ = some (.int .i64 x.upd)) ∧ (W3.drew.cell? ⟨w.heap.size + 1, 0, none⟩ = some (.string y.id) ∧ W3.drew.cell? ⟨w.heap.size + 1, 1, none⟩ = some (.string y.title) ∧ W3.drew.cell? ⟨w.heap.size + 1, 2, none⟩ = some (.string y.link) ∧ W3.drew.cell? ⟨w.heap.size + 1, 3, none⟩ = some (.string y.content) ∧ W3.drew.cell? ⟨w.heap.size + 1, 4, none⟩ = some (.int .i64 x.upd)) := ⟨⟨e0, e1, e2, e3, e4⟩, ⟨f0, f1, f2, f3, f4⟩⟩
        have hSB : ∀ x1 x2 : World, Below x1.heap.size x1 x2 → ((x1.cell? ⟨w.heap.size, 0, none⟩ = some (.string x.id) ∧ x1.cell? ⟨w.heap.size, 1, none⟩ = some (.string x.title) ∧ x1.cell? ⟨w.heap.size, 2, none⟩ = some (.string x.link) ∧ x1.cell? ⟨w.heap.size, 3, none⟩ = some (.string x.content) ∧ x1.cell? ⟨w.heap.size, 4, none⟩ = some (.int .i64 x.upd)) ∧ (x1.cell? ⟨w.heap.size + 1, 0, none⟩ = some (.string y.id) ∧ x1.cell? ⟨w.heap.size + 1, 1, none⟩ = some (.string y.title) ∧ x1.cell? ⟨w.heap.size + 1, 2, none⟩ = some (.string y.link) ∧ x1.cell? ⟨w.heap.size + 1, 3, none⟩ = some (.string y.content) ∧ x1.cell? ⟨w.heap.size + 1, 4, none⟩ = some (.int .i64 x.upd))) → ((x2.cell? ⟨w.heap.size, 0, none⟩ = some (.string x.id) ∧ x2.cell? ⟨w.heap.size, 1, none⟩ = some (.string x.title) ∧ x2.cell? ⟨w.heap.size, 2, none⟩ = some (.string x.link) ∧ x2.cell? ⟨w.heap.size, 3, none⟩ = some (.string x.content) ∧ x2.cell? ⟨w.heap.size, 4, none⟩ = some (.int .i64 x.upd)) ∧ (x2.cell? ⟨w.heap.size + 1, 0, none⟩ = some (.string y.id) ∧ x2.cell? ⟨w.heap.size + 1, 1, none⟩ = some (.string y.title) ∧ x2.cell? ⟨w.heap.size + 1, 2, none⟩ = some (.string y.link) ∧ x2.cell? ⟨w.heap.size + 1, 3, none⟩ = some (.string y.content) ∧ x2.cell? ⟨w.heap.size + 1, 4, none⟩ = some (.int .i64 x.upd))) := fun x1 x2 hb h => by
          obtain ⟨⟨z0, z1, z2, z3, z4⟩, ⟨z5, z6, z7, z8, z9⟩⟩ := h
          exact ⟨⟨mcell hb z0, mcell hb z1, mcell hb z2, mcell hb z3, mcell hb z4⟩, ⟨mcell hb z5, mcell hb z6, mcell hb z7, mcell hb z8, mcell hb z9⟩⟩
        clear e0 e1 e2 e3 e4 f0 f1 f2 f3 f4
        go_region_held3 (fun w' => (w'.cell? ⟨w.heap.size, 0, none⟩ = some (.string x.id) ∧ w'.cell? ⟨w.heap.size, 1, none⟩ = some (.string x.title) ∧ w'.cell? ⟨w.heap.size, 2, none⟩ = some (.string x.link) ∧ w'.cell? ⟨w.heap.size, 3, none⟩ = some (.string x.content) ∧ w'.cell? ⟨w.heap.size, 4, none⟩ = some (.int .i64 x.upd)) ∧ (w'.cell? ⟨w.heap.size + 1, 0, none⟩ = some (.string y.id) ∧ w'.cell? ⟨w.heap.size + 1, 1, none⟩ = some (.string y.title) ∧ w'.cell? ⟨w.heap.size + 1, 2, none⟩ = some (.string y.link) ∧ w'.cell? ⟨w.heap.size + 1, 3, none⟩ = some (.string y.content) ∧ w'.cell? ⟨w.heap.size + 1, 4, none⟩ = some (.int .i64 x.upd))) (first | with_reducible exact S0 | with_reducible exact S5 | with_reducible exact S6) (first | (go_at_call 18; with_reducible refine (k1 _).mono ?_; rintro e w6 ⟨rfl, b6⟩; have S6 := hSB _ _ b6 S5) | (go_at_call 18; with_reducible refine (k2 _).mono ?_; rintro e w5 ⟨rfl, b5⟩; have S5 := hSB _ _ b5 S0))
        all_goals
          have b36 := ((Below.refl W3.heap.size W3).drew).trans (b5.trans (b6.mono b5.size))
          clear S0 S5 S6 hSB b5 b6
          obtain ⟨hR, hX, hY, hB⟩ := HF.out _ b36
          obtain ⟨e0, e1, e2, e3, e4⟩ := hX
          obtain ⟨f0, f1, f2, f3, f4⟩ := hY
          rw [← H2.out] at f4
          have r0 := hR.cell 0
          have r1 := hR.cell 1
          have r2 := hR.cell 2
          have r3 := hR.cell 3
          have r4 := hR.cell 4
          simp only [List.getElem?_toArray, List.getElem?_cons_zero, List.getElem?_cons_succ] at r0 r1 r2 r3 r4
          have t0 := hR.fr 0
          have t1 := hR.fr 1
          have t2 := hR.fr 2
          have t3 := hR.fr 3
          have t4 := hR.fr 4
          have HBB := Lib.hid (HS.out _ y hB)
          rw [← H2.out] at HBB
          clear hR hB HF HS
          go_wp2
          exact bodyPost_ret (v := .agg #[.string y.id, .string y.title, .string y.link, .string y.content, .int .i64 x.upd]) (by simp [results, Tryd.results22, go_sem, mset_same, r0, r1, r2, r3, r4]) rfl ⟨rfl, HBB.out⟩
    · rw [decide_eq_false h2, Bool.false_and, if_neg (by simp)]
      have h2' : ¬ y.upd = x.upd := fun e => h2 e.symm
      clear k1 k2 hgt
      unfold EntV
      go_enter Tryd.func22, Tryd.ntmps22
      go_upto_region 1 with fail
      simp only [← hW3]
      clear hW3
      go_wp2
      go_quiet (fail)
      clear e0 e1 e2 e3 e4 f0 f1 f2 f3 f4
      obtain ⟨hR, hX, hY, hB⟩ := HF.out _ (mdrewN (Below.refl _ _) nq)
      obtain ⟨e0, e1, e2, e3, e4⟩ := hX
      obtain ⟨f0, f1, f2, f3, f4⟩ := hY
      have r0 := hR.cell 0
      have r1 := hR.cell 1
      have r2 := hR.cell 2
      have r3 := hR.cell 3
      have r4 := hR.cell 4
      simp only [List.getElem?_toArray, List.getElem?_cons_zero, List.getElem?_cons_succ] at r0 r1 r2 r3 r4
      have t0 := hR.fr 0
      have t1 := hR.fr 1
      have t2 := hR.fr 2
      have t3 := hR.fr 3
      have t4 := hR.fr 4
      have HBB := Lib.hid (HS.out _ x hB)
      clear hR hB HF HS
      go_wp2
      exact bodyPost_ret (v := .agg #[.string x.id, .string x.title, .string x.link, .string x.content, .int .i64 x.upd]) (by simp [results, Tryd.results22, go_sem, mset_same, r0, r1, r2, r3, r4]) rfl ⟨rfl, HBB.out⟩
end Go.Proofs.YtggfblodjanfkaaDoor
end
section
namespace Go.Proofs.YtggfblodjanfkaaDoor
open Go.RowKit
def mxB {α : Type} (c : α → α → Int) (a b : α) : α := if c a b < 0 then b else a
theorem Cmp3.self {α : Type} {c : α → α → Int} (h : Cmp3 c) (a : α) : c a a = 0 := by have := h.anti a a; omega
theorem mxB_self {α : Type} (c : α → α → Int) (a : α) : mxB c a a = a := by unfold mxB; split <;> rfl
theorem mxB_assoc {α : Type} {c : α → α → Int} (h : Cmp3 c) (a b d : α) : mxB c (mxB c a b) d = mxB c a (mxB c b d) := by
  have v1 := h.val a b
  have v2 := h.val b d
  have v3 := h.val a d
  have m1 : c a b ≤ 0 → c b d ≤ 0 → c a d = Min.min (c a b) (c b d) := h.min a b d
  have n1 := h.anti a b
  have n2 := h.anti b d
  have n3 := h.anti a d
  have m2 : c d b ≤ 0 → c b a ≤ 0 → c d a = Min.min (c d b) (c b a) := h.min d b a
  unfold mxB
  by_cases h1 : c a b < 0
  · rw [if_pos h1]
    by_cases h2 : c b d < 0
    · rw [if_pos h2, if_pos (by have := m1 (by omega) (by omega); omega)]
    · rw [if_neg h2, if_pos h1]
  · rw [if_neg h1]
    by_cases h2 : c b d < 0
    · rw [if_pos h2]
    · rw [if_neg h2, if_neg h1, if_neg (by have := m2 (by omega) (by omega); omega)]
theorem mxB_comm {α : Type} {c : α → α → Int} (h : Cmp3 c) (a b : α) (he : c a b = 0 → a = b) : mxB c b a = mxB c a b := by
  have v1 := h.val a b
  have n1 := h.anti a b
  unfold mxB
  by_cases h1 : c a b < 0
  · rw [if_pos h1, if_neg (by omega)]
  · rw [if_neg h1]
    by_cases h2 : c b a < 0
    · rw [if_pos h2]
    · rw [if_neg h2, he (by omega)]
def cmpT (a b : Int) : Int := cmpU b a
theorem cmpT_ok : Cmp3 cmpT := ⟨fun a b => cmpU_ok.val b a, fun a b => cmpU_ok.anti b a, fun a b d h1 h2 => by
  have n1 := cmpU_ok.anti b a
  have n2 := cmpU_ok.anti d b
  have n3 := cmpU_ok.anti d a
  have v1 := cmpU_ok.val b a
  have v2 := cmpU_ok.val d b
  have v3 := cmpU_ok.val d a
  change cmpU b a ≤ 0 at h1
  change cmpU d b ≤ 0 at h2
  show cmpU d a = Min.min (cmpU b a) (cmpU d b)
  have m := cmpU_ok.min d b a h2 h1
  rw [m]
  exact Int.min_comm _ _⟩
def cmpK (a b : EntD) : Int := lexI (cmpT a.upd b.upd) (cmpL (ekL a) (ekL b))
theorem cmpK_ok : Cmp3 cmpK := (cmpT_ok.on EntD.upd).lex (cmpL_ok.on ekL)
theorem lt_lex (u v : Int) (k l : List UInt8) : (decide (u < v) || (decide (u = v) && Op.bytesLess k l)) = decide (lexI (cmpT u v) (cmpL k l) < 0) := by
  unfold lexI cmpT cmpU
  by_cases h1 : u < v
  · rw [decide_eq_true h1, Bool.true_or, if_pos h1, if_neg (by omega)]
    rfl
  · rw [decide_eq_false h1, Bool.false_or, if_neg h1]
    by_cases h2 : u = v
    · subst h2
      rw [decide_eq_true rfl, Bool.true_and, if_neg (Int.lt_irrefl u), if_pos rfl]
      unfold cmpL
      cases Op.bytesLess k l
      · rw [if_neg (by simp)]
        split <;> rfl
      · rw [if_pos rfl]
        rfl
    · rw [decide_eq_false h2, Bool.false_and, if_pos (show v < u by omega), if_neg (by decide)]
      rfl
theorem ltE_mx (a b : EntD) : ltE a b = mxB cmpK a b := by
  unfold ltE mxB ltB cmpK
  rw [lt_lex]
  by_cases h : lexI (cmpT a.upd b.upd) (cmpL (ekL a) (ekL b)) < 0
  · rw [if_pos h, if_pos (decide_eq_true h)]
  · rw [if_neg h, if_neg (by rw [decide_eq_false h]; simp)]
theorem quote_inj (a b t r : List UInt8) (ha : vaL a = true) (hb : vaL b = true) (h : quoteJ a ++ t = quoteJ b ++ r) : a = b ∧ t = r := by
  have e : ∀ s u : List UInt8, (quoteJ s ++ u).drop 1 = itemsJ s ++ (34 :: u) := fun s u => by unfold quoteJ; simp
  have q : ∀ s u : List UInt8, vaL s = true → parJ 0 1 ((quoteJ s ++ u).drop 1) [] = (s, ((quoteJ s).length : Int), 0) := fun s u hs => by
    rw [e, parJ_items _ _ s hs, parJ_quote, List.nil_append]
    refine Prod.ext rfl (Prod.ext ?_ rfl)
    show (1 : Int) + _ + 1 = ((quoteJ s).length : Int)
    rw [quoteJ_len]
    omega
  have h1 := q a t ha
  rw [h, q b r hb] at h1
  have hab : b = a := congrArg Prod.fst h1
  subst hab
  exact ⟨rfl, List.append_cancel_left h⟩
theorem jnS_inj : ∀ (b : Bool) (l m : List ByteArray) (t r : List UInt8), vaS l = true → vaS m = true → l.length = m.length → jnS b l ++ t = jnS b m ++ r → l = m ∧ t = r
  | _, [], [], _, _, _, _, _, h => ⟨rfl, h⟩
  | b, x :: l, y :: m, t, r, hl, hm, hn, h => by
    have hl' : vaL x.data.toList = true ∧ vaS l = true := by
      have : (vaL x.data.toList && vaS l) = true := hl
      rwa [Bool.and_eq_true] at this
    have hm' : vaL y.data.toList = true ∧ vaS m = true := by
      have : (vaL y.data.toList && vaS m) = true := hm
      rwa [Bool.and_eq_true] at this
    rw [jnS, jnS, List.append_assoc, List.append_assoc, List.append_assoc, List.append_assoc] at h
    have h2 := List.append_cancel_left h
    obtain ⟨h3, h4⟩ := quote_inj _ _ _ _ hl'.1 hm'.1 h2
    obtain ⟨h5, h6⟩ := jnS_inj false l m t r hl'.2 hm'.2 (by simpa using hn) h4
    exact ⟨by rw [h5, show x = y from ByteArray.ext (Array.ext' h3)], h6⟩
theorem itoa_inj (a b : Int) (a0 : -9223372036854775808 ≤ a) (a1 : a ≤ 9223372036854775807) (b0 : -9223372036854775808 ≤ b) (b1 : b ≤ 9223372036854775807) (h : Lib.itoa a = Lib.itoa b) : a = b := by
  have h1 := num_itoa a a0 a1
  rw [h, num_itoa b b0 b1] at h1
  exact (Option.some.inj h1).symm
theorem ek_inj (a b : EntD) (a0 : -9223372036854775808 ≤ a.upd) (a1 : a.upd ≤ 9223372036854775807) (b0 : -9223372036854775808 ≤ b.upd) (b1 : b.upd ≤ 9223372036854775807) (ha : ekL a ≠ []) (h : ekL a = ekL b) : a = b := by
  have hb : ekL b ≠ [] := h ▸ ha
  unfold ekL at ha hb h
  split at ha
  · rename_i va
    split at hb
    · rename_i vb
      rw [if_pos va, if_pos vb] at h
      injection h with _ h
      obtain ⟨h1, h2⟩ := jnS_inj true _ _ _ _ va vb rfl h
      injection h2 with _ h2
      have h3 := List.append_cancel_right h2
      have h4 := itoa_inj _ _ a0 a1 b0 b1 h3
      simp only [List.cons.injEq, and_true] at h1
      obtain ⟨g1, g2, g3, g4⟩ := h1
      cases a
      cases b
      simp only at g1 g2 g3 g4 h4
      rw [g1, g2, g3, g4, h4]
    · exact absurd rfl hb
  · exact absurd rfl ha
end Go.Proofs.YtggfblodjanfkaaDoor
end
