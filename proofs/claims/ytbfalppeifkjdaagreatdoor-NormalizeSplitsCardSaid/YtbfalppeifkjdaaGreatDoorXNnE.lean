/- Packed from the texts NnE. -/
import Derived.Test.YtbfalppeifkjdaaGreatDoorXLate
import Derived.Test.YtbfalppeifkjdaaGreatDoorXShelf
import Derived.Test.YtbfalppeifkjdaaGreatDoorXm3
import Derived.Test.YtbfalppeifkjdaaGreatDoorXm4
import Derived.Maps.OwnSet
section
namespace Go.Proofs.YtbfalppeifkjdaaGreatDoor
open Go.RowKit Go.Maps
instance : Inhabited EntD := ⟨entZ⟩
def OkT : World → EntD → Prop := fun _ _ => True
theorem okT_mono : OkMono OkT := fun _ _ _ _ _ => trivial
theorem ents_rw {w : World} {p : Option Addr} {l : List EntD} (h : RwAt 5 entCells w p l) : EntsAt w p l := fun i hi => by
  obtain ⟨a, ha, hc⟩ := h i hi
  refine ⟨a, ha, ?_, hc 1 _ rfl, hc 2 _ rfl, hc 3 _ rfl, hc 4 _ rfl⟩
  have := hc 0 _ rfl
  rwa [show (a.add (i * 5)).add 0 = a.add (i * 5) by rw [add_add]; rfl] at this
theorem rw_ents {w : World} {p : Option Addr} {l : List EntD} (h : EntsAt w p l) : RwAt 5 entCells w p l := fun i hi => by
  obtain ⟨a, ha, h0, h1, h2, h3, h4⟩ := h i hi
  refine ⟨a, ha, fun c u hu => ?_⟩
  match c with
  | 0 => cases hu; rw [show (a.add (i * 5)).add 0 = a.add (i * 5) by rw [add_add]; rfl]; exact h0
  | 1 => cases hu; exact h1
  | 2 => cases hu; exact h2
  | 3 => cases hu; exact h3
  | 4 => cases hu; exact h4
theorem nz_zeroSE (w : World) : (zeroValue 33).run Tryz.prog w = .ok (.slice none 0 0) w := by kernel_rfl
theorem nodup_le {β : Type} : ∀ (d l : List β), d.Nodup → (∀ x ∈ d, x ∈ l) → d.length ≤ l.length
  | [], _, _, _ => Nat.zero_le _
  | x :: r, l, hn, h => by
    obtain ⟨a, b, rfl⟩ := List.append_of_mem (h x List.mem_cons_self)
    have hn2 := List.nodup_cons.1 hn
    have := nodup_le r (a ++ b) hn2.2 fun y hy => by
      rcases List.mem_append.1 (h y (List.mem_cons_of_mem _ hy)) with h1 | h1
      · exact List.mem_append_left _ h1
      · rcases List.mem_cons.1 h1 with rfl | h1
        · exact absurd hy hn2.1
        · exact List.mem_append_right _ h1
    simp only [List.length_append, List.length_cons] at this ⊢
    omega
theorem keys_le {α : Type} {key : α → ByteArray} {f : List (ByteArray × Value)} {l : List α} {done : List ByteArray} (hn : done.Nodup) (hm : ∀ q ∈ done, gpF f q ≠ none) (hv : ∀ q, gpF f q = none ↔ grpG key l q = []) : done.length ≤ l.length := by
  have : ∀ q ∈ done, q ∈ l.map key := fun q hq => by
    have h1 : grpG key l q ≠ [] := fun e => hm q hq ((hv q).2 e)
    obtain ⟨x, hx⟩ := List.exists_mem_of_ne_nil _ h1
    have := (mem_grpG l q x).1 hx
    exact List.mem_map.2 ⟨x, this.1, this.2⟩
  have := nodup_le done (l.map key) hn this
  rwa [List.length_map] at this
theorem pair_fun {α β : Type} {R : α → β → Prop} {l : List α} {m : List β} (h : PairL R l m) (J : α → β) (hJ : ∀ x y, R x y → y = J x) : m = l.map J ∧ ∀ x ∈ l, R x (J x) := by
  induction h with
  | nil => exact ⟨rfl, fun x h => (by cases h)⟩
  | snoc _ hxy ih =>
    refine ⟨by rw [ih.1, List.map_append, List.map_singleton, ← hJ _ _ hxy], fun x hx => ?_⟩
    rcases List.mem_append.1 hx with hx | hx
    · exact ih.2 x hx
    · rw [List.mem_singleton.1 hx, ← hJ _ _ hxy]
      exact hxy
theorem grpE_ok {f : List (ByteArray × Value)} {l : List EntD} {done : List ByteArray} {outs os' : List EntD} (hnd : done.Nodup) (hd : ∀ q, q ∈ done ↔ gpF f q ≠ none) (hv : ∀ q, gpF f q = none ↔ grpG EntD.id l q = []) (hP : PairL (fun q y => lateG ltE (grpG EntD.id l q) = some y) done outs)
    (hp : os'.Perm outs) (hs : os'.Pairwise fun a b => ¬ cmpE b a < 0) : os' = addsE [] l := by
  obtain ⟨h1, h2⟩ := pair_fun hP (fun q => (lateG ltE (grpG EntD.id l q)).getD entZ) (fun q y h => by rw [h]; rfl)
  refine grp_ok mgE_ok l done (fun q => (lateG ltE (grpG EntD.id l q)).getD entZ) hnd (fun q => ?_) h2 os' (by rw [← h1]; exact hp) hs
  rw [hd]
  constructor
  · intro h
    obtain ⟨x, hx⟩ := List.exists_mem_of_ne_nil _ (fun e => h ((hv q).2 e))
    exact ⟨x, (mem_grpG l q x).1 hx⟩
  · rintro ⟨x, hx, hk⟩ e
    have := (hv q).1 e
    rw [List.eq_nil_iff_forall_not_mem] at this
    exact this x ((mem_grpG l q x).2 ⟨hx, hk⟩)
theorem entCells_len (x : EntD) : (entCells x).length = 5 := rfl
set_option maxRecDepth 100000 in
theorem nz_idE (x : EntD) (w : World) : Calls Tryz.prog 57 #[EntV x] w fun e w' => e = .returned (.string x.id) ∧ Below w.heap.size w w' := by
  obtain ⟨i, t, l, c, u⟩ := x
  unfold EntV
  dsimp only
  have hb : ∀ o : Obj, Below w.heap.size w (w.alloc o) := fun o => (Below.refl _ _).alloc (Nat.le_refl _) o
  have HB := Lib.hid hb
  clear hb
  go_enter Tryz.func57, Tryz.ntmps57
  go_wp2
  go_ret
  exact ⟨rfl, HB.out _⟩
set_option maxRecDepth 100000 in
set_option maxHeartbeats 4000000 in
theorem nz_later1 (l : List EntD) (p : Option Addr) (c : Nat) (w : World) (z : EntD) (hz : lateG ltE l = some z) (hl : EntsAt w p l) (hc : l.length ≤ c) (hn : l.length ≤ 1000000) (hE : ∀ x ∈ l, EOk x) (hT : TabW w) :
    Calls Tryz.prog 53 #[.slice p l.length c] w fun e w' => e = .returned (EntV z) ∧ Below w.heap.size w w' := by
  obtain ⟨W1, hW1⟩ : ∃ W1, W1 = w.alloc (.cells #[.string ⟨#[]⟩, .string ⟨#[]⟩, .string ⟨#[]⟩, .string ⟨#[]⟩, .int .i64 0] 23) := ⟨_, rfl⟩
  have hB : Below w.heap.size w W1 := by rw [hW1]; exact (Below.refl _ _).alloc (Nat.le_refl _) _
  have hR : MBlk W1 w.heap.size #[.string ⟨#[]⟩, .string ⟨#[]⟩, .string ⟨#[]⟩, .string ⟨#[]⟩, .int .i64 0] 23 := by rw [hW1]; exact heap_alloc_new w _
  have cL := nz_latestE l.length l p c W1 z rfl hz (hl.below hB) hc hn hE (TabW_below hT hB)
  unfold EntV at cL ⊢
  have HR := Lib.hid hR
  have HB := Lib.hid hB
  clear hz hl hE hT hR hB
  go_enter Tryz.func53, Tryz.ntmps53
  go_upto_region 1 with fail
  simp only [← hW1]
  clear hW1
  go_wp2_with fail
  refine cL.mono ?_
  rintro e w2 ⟨rfl, b2⟩
  have hM := HR.out.more b2
  have r0 := hM.cell 0
  have r1 := hM.cell 1
  have r2 := hM.cell 2
  have r3 := hM.cell 3
  have r4 := hM.cell 4
  simp only [List.getElem?_toArray, List.getElem?_cons_zero, List.getElem?_cons_succ] at r0 r1 r2 r3 r4
  have t0 := hM.fr 0
  have t1 := hM.fr 1
  have t2 := hM.fr 2
  have t3 := hM.fr 3
  have t4 := hM.fr 4
  have HF := Lib.hid (nm_below5 (HB.out.trans (b2.mono HB.out.size)) (Nat.le_refl _) (.string z.id) (.string z.title) (.string z.link) (.string z.content) (.int .i64 z.upd))
  clear hM HR HB b2 cL
  go_wp2
  exact bodyPost_ret (v := .agg #[.string z.id, .string z.title, .string z.link, .string z.content, .int .i64 z.upd]) (by simp [results, Tryz.results53, go_sem, mset_same, r0, r1, r2, r3, r4]) rfl ⟨rfl, HF.out⟩
theorem ents_one1 (x : EntD) : ∀ u ∈ entCells x, u.oneCell' = true := by
  intro u hu
  simp only [entCells, List.mem_cons, List.not_mem_nil, or_false] at hu
  rcases hu with rfl | rfl | rfl | rfl | rfl <;> rfl
set_option maxRecDepth 100000 in
set_option maxHeartbeats 4000000 in
theorem nz_sortE (outs : List EntD) (v : Value) (w : World) (B : Nat) (ho : w.ownsRow B 23 5 v outs.length (rowC entCells outs)) (hn : outs.length ≤ 1000000) :
    Calls Tryz.prog 74 #[v, .func (.func 58) #[] #[]] w fun e w' => e = .returned (.tuple #[]) ∧ ∃ os', os'.Perm outs ∧ (os'.Pairwise fun a b => ¬ cmpE b a < 0) ∧ NewRow 5 entCells B v os' w' ∧ w.grownBy w' v.ownBlock := by
  by_cases h0 : outs = []
  · subst h0
    have hv : ∃ p cap, v = .slice p 0 cap := by
      rcases ho.2 with ⟨rfl, -⟩ | ⟨g, cap, -, rfl, -⟩
      · exact ⟨_, _, rfl⟩
      · exact ⟨_, _, rfl⟩
    obtain ⟨p, cap, rfl⟩ := hv
    have hcon := Go.Proofs.AnyF.slices_SortFunc_none Tryz.sortE p cap (.func (.func 58) #[] #[]) w
    refine Calls.mono (show Calls Tryz.prog 74 _ _ _ from hcon) ?_
    rintro e w' ⟨rfl, rfl⟩
    exact ⟨rfl, [], List.Perm.refl _, List.Pairwise.nil, NewRow.owned entCells_len ho, ⟨rfl, rfl, rfl, Nat.le_refl _, fun _ _ _ => rfl⟩⟩
  · have hpos : 0 < outs.length := List.length_pos_iff.2 h0
    obtain ⟨g, cap, rfl, hgB, hgl⟩ := ho.form hpos
    have hcap : outs.length ≤ cap := by
      rcases ho.2 with ⟨e, -⟩ | ⟨g', cap', cur, e, -, -, hc, -⟩
      · cases e
      · cases e; exact hc
    have eg : ∀ args w, (callFunc 58 args).run Tryz.prog w = .ok (.enter 58 args) w := enters_of Tryz.func58 (by kernel_rfl) rfl
    have hH := holds_owns entCells_len ho
    have hcmp : Go.Proofs.CmpLays Tryz.prog 58 #[] entCells 5 cmpE g 0 outs.toArray.size w := fun m os dk hd x y => nz_cmpE x y _
    have hcon := Go.Proofs.AnyQ.slices_SortFunc Tryz.sortE 5 (fun w => by kernel_rfl) (fun w => by kernel_rfl) entCells entCells_len ents_one1 cmpE (cmp3_swo cmpE_ok) 58 #[] g 0 cap outs.toArray w eg hcmp hH hgl (by show outs.length < _; omega)
    refine Calls.mono (show Calls Tryz.prog 74 #[.slice (some ⟨g, 0, none⟩) outs.length cap, .func (.func 58) #[] #[]] w _ from hcon) ?_
    rintro e w' ⟨rfl, d', n, os, hp, hs, rfl⟩
    have hsz : d'.size = outs.length := hp.1
    refine ⟨rfl, d'.toList, sort_perm hp, sort_sorted hp.1 hs, ?_, sorted_grown⟩
    have := sorted_new (os := os) (n := n) entCells_len hH hp.1 hgl hgB (show outs.toArray.size ≤ cap from hcap)
    rwa [show d'.toList.length = outs.length by rw [Array.length_toList]; exact hsz] at this
set_option maxRecDepth 100000 in
set_option maxHeartbeats 32000000 in
theorem nz_combineE (l : List EntD) (p : Option Addr) (c : Nat) (w : World) (L : List Nat) (hl : RwAt 5 entCells w p l) (hOk : ∀ x ∈ l, OkT (holes w L) x) (hLw : ∀ j ∈ L, j < w.heap.size) (hn : l.length ≤ 1000000) (hE : ∀ x ∈ l, EOk x) (hT : TabW w) :
    Calls Tryz.prog 56 #[.slice p l.length c, .func (.func 57) #[] #[], .func (.func 53) #[] #[], .func (.func 58) #[] #[]] w fun e w' => ∃ v ys, e = .returned v ∧ ys = addsE [] l ∧ NewRow 5 entCells w.heap.size v ys w' ∧ (∀ y ∈ ys, OkT (holes w' L) y) ∧ Below w.heap.size w w' := by
  obtain ⟨i0, hi0, hi1, hi3, hi4⟩ := info_parts nz_infoE
  have hmm := @run_makeMap Tryz.prog
  have HL := Lib.hid hl
  have HO := Lib.hid hOk
  have HE := Lib.hid hE
  have HT := Lib.hid hT
  have HLW := Lib.hid hLw
  skip
  have hnz : (l.length : Int) ≤ 1000000 := by omega
  obtain ⟨b, hb⟩ : ∃ b, b = w.heap.size := ⟨_, rfl⟩
  have hG0 : GpsAt 23 5 entCells EntD.id (b + 1) b [] ([] : List EntD) (w.alloc (.map #[] 0)) := by rw [hb]; exact GpsAt.made w
  have hB0 : Below w.heap.size w (w.alloc (.map #[] 0)) := (Below.refl _ _).alloc (Nat.le_refl _) _
  have hbw : w.heap.size ≤ b := by omega
  have h1c : ∀ (x : EntD), ∀ u ∈ ([.string x.id, .string x.title, .string x.link, .string x.content, .int .i64 x.upd] : List Value), u.oneCell' = true := by
    intro x u hu
    simp only [List.mem_cons, List.not_mem_nil, or_false] at hu
    rcases hu with rfl | rfl | rfl | rfl | rfl <;> rfl
  have H1C := Lib.hid h1c
  have HBQ := Lib.hid hb
  clear hl hOk hE hT hLw h1c hb
  go_enter Tryz.func56, Tryz.ntmps56
  go_wp2
  simp only [← HBQ.out]
  go_loopw [18] (fun q wr => ∃ (i : Nat) (f : List (ByteArray × Value)), i ≤ l.length ∧ q = .int .i64 (i : Int) ∧ f.length = i ∧ GpsAt 23 5 entCells EntD.id (b + 1) b f (l.take i) wr ∧ Below w.heap.size w wr) (fun q _ => l.length - (RowKit.intOf q).toNat)
  case atStart => exact ⟨0, [], Nat.zero_le _, rfl, rfl, hG0, hB0⟩
  case round =>
    clear hmm hG0 hB0
    obtain ⟨i, f, hi, rfl, hfl, hG, hbr⟩ := hrel
    have hzr := hbr.size
    by_cases hlt : i < l.length
    · have hiz : (i : Int) < (l.length : Int) := by omega
      obtain ⟨a, rfl, hc⟩ := HL.out.below hbr i hlt
      have htk : l.take (i + 1) = l.take i ++ [l[i]] := List.take_succ_eq_append_getElem hlt
      obtain ⟨x, hx⟩ : ∃ x, l[i] = x := ⟨_, rfl⟩
      have hxE := HE.out x (by rw [← hx]; exact List.getElem_mem _)
      rw [hx] at hc htk
      clear hx
      have a0 := hc 0 _ rfl
      have a1 := hc 1 _ rfl
      have a2 := hc 2 _ rfl
      have a3 := hc 3 _ rfl
      have a4 := hc 4 _ rfl
      clear hc
      obtain ⟨aa, haa⟩ : ∃ aa, a.add (i * 5) = aa := ⟨_, rfl⟩
      rw [haa] at a0 a1 a2 a3 a4
      simp only [Addr.add, Nat.reduceEqDiff, ↓reduceIte] at a0 a1 a2 a3 a4
      obtain ⟨W2, hW2⟩ : ∃ W2, W2 = wr.alloc (.cells #[.string x.id, .string x.title, .string x.link, .string x.content, .int .i64 x.upd] 23) := ⟨_, rfl⟩
      obtain ⟨bx, hbx⟩ : ∃ n, n = wr.heap.size := ⟨_, rfl⟩
      have hb2 : Below wr.heap.size wr W2 := by rw [hW2]; exact (Below.refl _ _).alloc (Nat.le_refl _) _
      have hX : W2.cell? ⟨bx, 0, none⟩ = some (.string x.id) ∧ W2.cell? ⟨bx, 1, none⟩ = some (.string x.title) ∧ W2.cell? ⟨bx, 2, none⟩ = some (.string x.link) ∧ W2.cell? ⟨bx, 3, none⟩ = some (.string x.content) ∧ W2.cell? ⟨bx, 4, none⟩ = some (.int .i64 x.upd) ∧ GpMap W2 b f := by
        refine ⟨?_, ?_, ?_, ?_, ?_, (hG.more hb2).map⟩ <;> (rw [hW2, hbx]; first | exact cell_of_row _ _ 0 _ _ _ (heap_alloc_new wr _) | exact cell_of_row _ _ 1 _ _ _ (heap_alloc_new wr _) | exact cell_of_row _ _ 2 _ _ _ (heap_alloc_new wr _) | exact cell_of_row _ _ 3 _ _ _ (heap_alloc_new wr _) | exact cell_of_row _ _ 4 _ _ _ (heap_alloc_new wr _) | exact cell_of_row _ _ 5 _ _ _ (heap_alloc_new wr _))
      have HX := Lib.hid hX
      have HG2 := Lib.hid (hG.more hb2)
      have HFR : Hid (∀ (q : ByteArray) (j : Nat), ((gpF f q).getD (.slice none 0 0)).ownBlock = some j → j = bx → False) := Lib.hid (fun q j h e => absurd ((hG.at q).lt j h).2 (by omega))
      have HBW := Lib.hid (hbr.trans (hb2.mono hzr))
      have HTK := Lib.hid htk
      have HSB := Lib.hid (fun (u1 u2 : World) (hb : Below u1.heap.size u1 u2) (hss : u1.cell? ⟨bx, 0, none⟩ = some (.string x.id) ∧ u1.cell? ⟨bx, 1, none⟩ = some (.string x.title) ∧ u1.cell? ⟨bx, 2, none⟩ = some (.string x.link) ∧ u1.cell? ⟨bx, 3, none⟩ = some (.string x.content) ∧ u1.cell? ⟨bx, 4, none⟩ = some (.int .i64 x.upd) ∧ GpMap u1 b f) => (show u2.cell? ⟨bx, 0, none⟩ = some (.string x.id) ∧ u2.cell? ⟨bx, 1, none⟩ = some (.string x.title) ∧ u2.cell? ⟨bx, 2, none⟩ = some (.string x.link) ∧ u2.cell? ⟨bx, 3, none⟩ = some (.string x.content) ∧ u2.cell? ⟨bx, 4, none⟩ = some (.int .i64 x.upd) ∧ GpMap u2 b f from by
        obtain ⟨z0, z1, z2, z3, z4, z5⟩ := hss
        exact ⟨mcell hb z0, mcell hb z1, mcell hb z2, mcell hb z3, mcell hb z4, z5.same (hb.block b z5.lt)⟩))
      have hks : (x.id).size ≤ maxLen := by have := hxE.1.1; unfold maxLen; omega
      have cI := fun wx => nz_idE x wx
      unfold EntV at cI
      have h1c := H1C.out x
      have hgl : (grpG EntD.id (l.take i) (x.id)).length ≤ 1000000 := by
        refine Nat.le_trans (List.length_filter_le ..) ?_
        rw [List.length_take]
        omega
      have HBX := Lib.hid hbx
      clear hX hbr htk hG hxE H1C HL HE HO HT HLW hbx
      go_upto_region 5 with fail
      simp only [← hW2, ← HBX.out]
      clear hW2 hb2 haa a0 a1 a2 a3 a4
      have SD0 : W2.drew.cell? ⟨bx, 0, none⟩ = some (.string x.id) ∧ W2.drew.cell? ⟨bx, 1, none⟩ = some (.string x.title) ∧ W2.drew.cell? ⟨bx, 2, none⟩ = some (.string x.link) ∧ W2.drew.cell? ⟨bx, 3, none⟩ = some (.string x.content) ∧ W2.drew.cell? ⟨bx, 4, none⟩ = some (.int .i64 x.upd) ∧ GpMap W2.drew b f := HSB.out _ _ ((Below.refl _ _).drew) HX.out
      have D0 := Lib.hid (HBW.out.trans (((Below.refl W2.heap.size W2).drew).mono HBW.out.size))
      have G0 := Lib.hid (HG2.out.more ((Below.refl W2.heap.size W2).drew))
      clear HX HBW HG2
      refine wp_region_late (S := fun w' => w'.cell? ⟨bx, 0, none⟩ = some (.string x.id) ∧ w'.cell? ⟨bx, 1, none⟩ = some (.string x.title) ∧ w'.cell? ⟨bx, 2, none⟩ = some (.string x.link) ∧ w'.cell? ⟨bx, 3, none⟩ = some (.string x.content) ∧ w'.cell? ⟨bx, 4, none⟩ = some (.int .i64 x.upd) ∧ GpMap w' b f) (D := [12]) (by kernel_rfl) ?_
      generalize W2.drew = Wd at *
      refine anyL_take (i := 0) (oi := { dst := some 22, op := Go.Op.move (Go.Operand.tmp 9), type := 106, pos := "combine.go:36", after := #[], guard := none }) (v := ?_) rfl (by decide) (by kernel_rfl) (by kernel_rfl) (by kernel_rfl) (by kernel_rfl) (fun _ _ _ h => h) (Or.inl ⟨by rfl, ?_⟩) SD0 ?_
      rotate_left
      · intro wz hSz
        skip
        go_simp
        (try with_reducible rfl)
      try simp only [Act.put, List.setIfInBounds_toArray, List.set_cons_zero, List.set_cons_succ]
      refine anyL_take (i := 1) (oi := { dst := some 23, op := Go.Op.move (Go.Operand.tmp 1), type := 92, pos := "combine.go:36", after := #[], guard := none }) (v := ?_) rfl (by decide) (by kernel_rfl) (by kernel_rfl) (by kernel_rfl) (by kernel_rfl) (fun _ _ _ h => h) (Or.inl ⟨by rfl, ?_⟩) SD0 ?_
      rotate_left
      · intro wz hSz
        skip
        go_simp
        (try with_reducible rfl)
      try simp only [Act.put, List.setIfInBounds_toArray, List.set_cons_zero, List.set_cons_succ]
      refine anyL_take (i := 2) (oi := { dst := some 24, op := Go.Op.load 23 (Go.Operand.tmp 11), type := 23, pos := "combine.go:36", after := #[], guard := none }) (v := ?_) rfl (by decide) (by kernel_rfl) (by kernel_rfl) (by kernel_rfl) (by kernel_rfl) (fun _ _ _ h => h) (Or.inl ⟨by rfl, ?_⟩) SD0 ?_
      rotate_left
      · intro wz hSz
        obtain ⟨z0, z1, z2, z3, z4, z5⟩ := hSz
        go_simp
        (try with_reducible rfl)
      try simp only [Act.put, List.setIfInBounds_toArray, List.set_cons_zero, List.set_cons_succ]
      refine anyL_take (i := 4) (oi := { dst := some 26, op := Go.Op.move (Go.Operand.tmp 9), type := 106, pos := "combine.go:36", after := #[], guard := none }) (v := ?_) rfl (by decide) (by kernel_rfl) (by kernel_rfl) (by kernel_rfl) (by kernel_rfl) (fun _ _ _ h => h) (Or.inl ⟨by rfl, ?_⟩) SD0 ?_
      rotate_left
      · intro wz hSz
        skip
        go_simp
        (try with_reducible rfl)
      try simp only [Act.put, List.setIfInBounds_toArray, List.set_cons_zero, List.set_cons_succ]
      refine anyL_take (i := 5) (oi := { dst := some 27, op := Go.Op.move (Go.Operand.tmp 1), type := 92, pos := "combine.go:36", after := #[], guard := none }) (v := ?_) rfl (by decide) (by kernel_rfl) (by kernel_rfl) (by kernel_rfl) (by kernel_rfl) (fun _ _ _ h => h) (Or.inl ⟨by rfl, ?_⟩) SD0 ?_
      rotate_left
      · intro wz hSz
        skip
        go_simp
        (try with_reducible rfl)
      try simp only [Act.put, List.setIfInBounds_toArray, List.set_cons_zero, List.set_cons_succ]
      refine anyL_take (i := 6) (oi := { dst := some 28, op := Go.Op.load 23 (Go.Operand.tmp 11), type := 23, pos := "combine.go:36", after := #[], guard := none }) (v := ?_) rfl (by decide) (by kernel_rfl) (by kernel_rfl) (by kernel_rfl) (by kernel_rfl) (fun _ _ _ h => h) (Or.inl ⟨by rfl, ?_⟩) SD0 ?_
      rotate_left
      · intro wz hSz
        obtain ⟨z0, z1, z2, z3, z4, z5⟩ := hSz
        go_simp
        (try with_reducible rfl)
      try simp only [Act.put, List.setIfInBounds_toArray, List.set_cons_zero, List.set_cons_succ]
      refine anyL_take (i := 9) (oi := { dst := some 31, op := Go.Op.load 23 (Go.Operand.tmp 11), type := 23, pos := "combine.go:36", after := #[], guard := none }) (v := ?_) rfl (by decide) (by kernel_rfl) (by kernel_rfl) (by kernel_rfl) (by kernel_rfl) (fun _ _ _ h => h) (Or.inl ⟨by rfl, ?_⟩) SD0 ?_
      rotate_left
      · intro wz hSz
        obtain ⟨z0, z1, z2, z3, z4, z5⟩ := hSz
        go_simp
        (try with_reducible rfl)
      try simp only [Act.put, List.setIfInBounds_toArray, List.set_cons_zero, List.set_cons_succ]
      refine anyL_ready (rs := [3, 10]) (by kernel_rfl) (by simp) ?_
      refine AllL.cons (o := { dst := some 25, op := Go.Op.call { callee := Go.Callee.value (Go.Operand.tmp 23), args := #[Go.Operand.tmp 24], argTypes := #[23] }, type := 9, pos := "combine.go:36", after := #[{ on := 1, ground := Go.Ground.data }, { on := 2, ground := Go.Ground.data }], guard := none }) rfl (fun K' hK => ?_) (AllL.cons (o := { dst := some 32, op := Go.Op.buildSlice 33 1 #[(0, Go.Operand.tmp 31)], type := 33, pos := "combine.go:36", after := #[{ on := 9, ground := Go.Ground.data }], guard := none }) rfl (fun K' hK => ?_) AllL.nil)
      · rw [if_pos (by rfl)]
        go_simp
        go_at_call 57
        refine (cI _).mono ?_
        rintro e1 V1 ⟨rfl, bb⟩
        have SD1 := HSB.out _ _ bb SD0
        have D1 := Lib.hid (D0.out.trans (bb.mono D0.out.size))
        have G1 := Lib.hid (G0.out.more bb)
        refine hK _ _ SD1 ?_
        clear hK K' bb SD0 D0 G0
        try simp only [Act.put, List.setIfInBounds_toArray, List.set_cons_zero, List.set_cons_succ]
        refine anyL_ready (rs := [7, 10]) (by kernel_rfl) (by simp) ?_
        refine AllL.cons (o := { dst := some 29, op := Go.Op.call { callee := Go.Callee.value (Go.Operand.tmp 27), args := #[Go.Operand.tmp 28], argTypes := #[23] }, type := 9, pos := "combine.go:36", after := #[{ on := 5, ground := Go.Ground.data }, { on := 6, ground := Go.Ground.data }, { on := 3, ground := Go.Ground.chain }], guard := none }) rfl (fun K' hK => ?_) (AllL.cons (o := { dst := some 32, op := Go.Op.buildSlice 33 1 #[(0, Go.Operand.tmp 31)], type := 33, pos := "combine.go:36", after := #[{ on := 9, ground := Go.Ground.data }], guard := none }) rfl (fun K' hK => ?_) AllL.nil)
        · rw [if_pos (by rfl)]
          go_simp
          go_at_call 57
          refine (cI _).mono ?_
          rintro e2 V2 ⟨rfl, bb⟩
          have SD2 := HSB.out _ _ bb SD1
          have D2 := Lib.hid (D1.out.trans (bb.mono D1.out.size))
          have G2 := Lib.hid (G1.out.more bb)
          refine hK _ _ SD2 ?_
          clear hK K' bb SD1 D1 G1
          try simp only [Act.put, List.setIfInBounds_toArray, List.set_cons_zero, List.set_cons_succ]
          refine anyL_take (i := 8) (oi := { dst := some 30, op := Go.Op.lookup 106 (Go.Operand.tmp 26) (Go.Operand.tmp 29) false, type := 33, pos := "combine.go:36", after := #[{ on := 4, ground := Go.Ground.data }, { on := 7, ground := Go.Ground.data }], guard := none }) (v := ?_) rfl (by decide) (by kernel_rfl) (by kernel_rfl) (by kernel_rfl) (by kernel_rfl) (fun _ _ _ h => h) (Or.inl ⟨by rfl, ?_⟩) SD2 ?_
          rotate_left
          · intro wz hSz
            obtain ⟨z0, z1, z2, z3, z4, z5⟩ := hSz
            have hlk := z5.look Tryz.underlying106 (nz_zeroSE wz) (x.id) hks
            go_simp
            (try with_reducible rfl)
          try simp only [Act.put, List.setIfInBounds_toArray, List.set_cons_zero, List.set_cons_succ]
          refine anyL_ready (rs := [10]) (by kernel_rfl) (by simp) ?_
          refine AllL.cons (o := { dst := some 32, op := Go.Op.buildSlice 33 1 #[(0, Go.Operand.tmp 31)], type := 33, pos := "combine.go:36", after := #[{ on := 9, ground := Go.Ground.data }], guard := none }) rfl (fun K' hK => ?_) AllL.nil
          rw [if_pos (by rfl)]
          go_simp
          obtain ⟨V3, hV3⟩ : ∃ V, V = V2.alloc (.cells #[.string x.id, .string x.title, .string x.link, .string x.content, .int .i64 x.upd] 23) := ⟨_, rfl⟩
          obtain ⟨bq, hbq⟩ : ∃ n, n = V2.heap.size := ⟨_, rfl⟩
          have bb : Below V2.heap.size V2 V3 := by rw [hV3]; exact (Below.refl _ _).alloc (Nat.le_refl _) _
          have M3 : MBlk V3 bq #[.string x.id, .string x.title, .string x.link, .string x.content, .int .i64 x.upd] 23 := by rw [hV3, hbq]; exact heap_alloc_new _ _
          have SD3 := HSB.out _ _ bb SD2
          have D3 := Lib.hid (D2.out.trans (bb.mono D2.out.size))
          have G3 := Lib.hid (G2.out.more bb)
          simp only [← hV3, ← hbq]
          refine hK _ _ SD3 ?_
          clear hK K' hV3 hbq bb SD2 D2 G2
          try simp only [Act.put, List.setIfInBounds_toArray, List.set_cons_zero, List.set_cons_succ]
          refine anyL_ready (rs := [11]) (by kernel_rfl) (by simp) ?_
          refine AllL.cons (o := { dst := some 33, op := Go.Op.call { callee := Go.Callee.builtin Go.Builtin.append, args := #[Go.Operand.tmp 30, Go.Operand.tmp 32], argTypes := #[33, 33] }, type := 33, pos := "combine.go:36", after := #[{ on := 8, ground := Go.Ground.data }, { on := 10, ground := Go.Ground.data }, { on := 7, ground := Go.Ground.chain }], guard := none }) rfl (fun K' hK => ?_) AllL.nil
          rw [if_pos (by rfl)]
          have hG := G3.out
          refine wp_append_lies _ (.tmp 30) (.tmp 32) 33 rfl (b + 1) 23 i0 (.agg #[.string ⟨#[]⟩, .string ⟨#[]⟩, .string ⟨#[]⟩, .string ⟨#[]⟩, .int .i64 0]) 5 72 Tryz.underlying33 hi0 hi1 hi3 hi4 rfl (by decide) ((gpF f (x.id)).getD (.slice none 0 0)) (grpG EntD.id (l.take i) (x.id)).length (rowC entCells (grpG EntD.id (l.take i) (x.id))) rfl (hG.at _) ⟨bq, 0, none⟩ 1 1 [.string x.id, .string x.title, .string x.link, .string x.content, .int .i64 x.upd] rfl rfl (World.news_of_block M3) h1c (by decide) (by unfold maxLen; omega) (by omega) hG.size _ rfl ?_
          intro g cap V' hown hgr hat hlt
          have hm6 : GpMap V' b f := hG.map.same (hgr.block b hG.map.lt fun e => by have := ((hG.at (x.id)).lt b e.symm).1; omega)
          have hfar : ∀ o u, V3.cell? ⟨bx, o, none⟩ = some u → V'.cell? ⟨bx, o, none⟩ = some u := fun o u h => hgr.cell h fun e => HFR.out (x.id) bx e.symm rfl
          have S6 : V'.cell? ⟨bx, 0, none⟩ = some (.string x.id) ∧ V'.cell? ⟨bx, 1, none⟩ = some (.string x.title) ∧ V'.cell? ⟨bx, 2, none⟩ = some (.string x.link) ∧ V'.cell? ⟨bx, 3, none⟩ = some (.string x.content) ∧ V'.cell? ⟨bx, 4, none⟩ = some (.int .i64 x.upd) ∧ GpMap V' b f := by
            obtain ⟨z0, z1, z2, z3, z4, z5⟩ := SD3
            exact ⟨hfar _ _ z0, hfar _ _ z1, hfar _ _ z2, hfar _ _ z3, hfar _ _ z4, hm6⟩
          refine hK _ _ S6 ?_
          clear hK K'
          try simp only [Act.put, List.setIfInBounds_toArray, List.set_cons_zero, List.set_cons_succ]
          refine anyL_ready (rs := [12]) (by kernel_rfl) (by simp) ?_
          refine AllL.last (o := { dst := none, op := Go.Op.mapUpdate 106 (Go.Operand.tmp 22) (Go.Operand.tmp 25) (Go.Operand.tmp 33), type := 0, pos := "combine.go:36", after := #[{ on := 0, ground := Go.Ground.data }, { on := 3, ground := Go.Ground.data }, { on := 11, ground := Go.Ground.data }, { on := 11, ground := Go.Ground.chain }, { on := 0, ground := Go.Ground.phase }, { on := 1, ground := Go.Ground.phase }, { on := 2, ground := Go.Ground.phase }, { on := 3, ground := Go.Ground.phase }, { on := 4, ground := Go.Ground.phase }, { on := 5, ground := Go.Ground.phase }, { on := 6, ground := Go.Ground.phase }, { on := 7, ground := Go.Ground.phase }, { on := 8, ground := Go.Ground.phase }, { on := 9, ground := Go.Ground.phase }, { on := 10, ground := Go.Ground.phase }, { on := 11, ground := Go.Ground.phase }], guard := none }) rfl (by decide) (fun K' hK => ?_)
          rw [if_pos (by rfl)]
          obtain ⟨V'', hrun, hm7, hg7⟩ := World.ownsMap.update hm6 gp_law Tryz.underlying106 (by unfold maxLen; omega) (Go.WideMaps.keyOf_string_mk Tryz.underlying9 hks) (show slElem (.slice (some ⟨g, 0, none⟩) ((grpG EntD.id (l.take i) (x.id)).length + 1) cap) = some (.held _, []) from rfl)
          have hB7 := hG.below (x.id) D3.out (by omega) (Nat.le_trans (by omega) hG.size) hgr hg7
          have hG7 := hG.put (x := x) rfl rfl hgr hown hat hm7 hg7
          have HB7 := Lib.hid hB7
          have HG7 := Lib.hid hG7
          clear hm6 hm7 hg7 hgr hown hat hlt hB7 hG7 hG SD3 D3 M3 G3 S6 hfar
          go_simp
          refine hK _ _ ?_
          clear hK K' hrun
          try simp only [Act.put, List.setIfInBounds_toArray, List.set_cons_zero, List.set_cons_succ]
          refine anyL_done (by kernel_rfl) ?_ _
          go_wp2
          go_roundw
          case rel => exact ⟨i + 1, _ :: f, by omega, by go_num, congrArg (· + 1) hfl, by rw [HTK.out]; exact HG7.out, HB7.out⟩
          case measure => simp [RowKit.intOf]; omega
        · rw [if_pos (by rfl)]
          go_simp
          obtain ⟨V2, hV2⟩ : ∃ V, V = V1.alloc (.cells #[.string x.id, .string x.title, .string x.link, .string x.content, .int .i64 x.upd] 23) := ⟨_, rfl⟩
          obtain ⟨bq, hbq⟩ : ∃ n, n = V1.heap.size := ⟨_, rfl⟩
          have bb : Below V1.heap.size V1 V2 := by rw [hV2]; exact (Below.refl _ _).alloc (Nat.le_refl _) _
          have M2 : MBlk V2 bq #[.string x.id, .string x.title, .string x.link, .string x.content, .int .i64 x.upd] 23 := by rw [hV2, hbq]; exact heap_alloc_new _ _
          have SD2 := HSB.out _ _ bb SD1
          have D2 := Lib.hid (D1.out.trans (bb.mono D1.out.size))
          have G2 := Lib.hid (G1.out.more bb)
          simp only [← hV2, ← hbq]
          refine hK _ _ SD2 ?_
          clear hK K' hV2 hbq bb SD1 D1 G1
          try simp only [Act.put, List.setIfInBounds_toArray, List.set_cons_zero, List.set_cons_succ]
          refine anyL_ready (rs := [7]) (by kernel_rfl) (by simp) ?_
          refine AllL.cons (o := { dst := some 29, op := Go.Op.call { callee := Go.Callee.value (Go.Operand.tmp 27), args := #[Go.Operand.tmp 28], argTypes := #[23] }, type := 9, pos := "combine.go:36", after := #[{ on := 5, ground := Go.Ground.data }, { on := 6, ground := Go.Ground.data }, { on := 3, ground := Go.Ground.chain }], guard := none }) rfl (fun K' hK => ?_) AllL.nil
          rw [if_pos (by rfl)]
          go_simp
          go_at_call 57
          refine (cI _).mono ?_
          rintro e3 V3 ⟨rfl, bb⟩
          have SD3 := HSB.out _ _ bb SD2
          have D3 := Lib.hid (D2.out.trans (bb.mono D2.out.size))
          have G3 := Lib.hid (G2.out.more bb)
          have M3 := M2.more bb
          refine hK _ _ SD3 ?_
          clear hK K' bb SD2 D2 G2 M2
          try simp only [Act.put, List.setIfInBounds_toArray, List.set_cons_zero, List.set_cons_succ]
          refine anyL_take (i := 8) (oi := { dst := some 30, op := Go.Op.lookup 106 (Go.Operand.tmp 26) (Go.Operand.tmp 29) false, type := 33, pos := "combine.go:36", after := #[{ on := 4, ground := Go.Ground.data }, { on := 7, ground := Go.Ground.data }], guard := none }) (v := ?_) rfl (by decide) (by kernel_rfl) (by kernel_rfl) (by kernel_rfl) (by kernel_rfl) (fun _ _ _ h => h) (Or.inl ⟨by rfl, ?_⟩) SD3 ?_
          rotate_left
          · intro wz hSz
            obtain ⟨z0, z1, z2, z3, z4, z5⟩ := hSz
            have hlk := z5.look Tryz.underlying106 (nz_zeroSE wz) (x.id) hks
            go_simp
            (try with_reducible rfl)
          try simp only [Act.put, List.setIfInBounds_toArray, List.set_cons_zero, List.set_cons_succ]
          refine anyL_ready (rs := [11]) (by kernel_rfl) (by simp) ?_
          refine AllL.cons (o := { dst := some 33, op := Go.Op.call { callee := Go.Callee.builtin Go.Builtin.append, args := #[Go.Operand.tmp 30, Go.Operand.tmp 32], argTypes := #[33, 33] }, type := 33, pos := "combine.go:36", after := #[{ on := 8, ground := Go.Ground.data }, { on := 10, ground := Go.Ground.data }, { on := 7, ground := Go.Ground.chain }], guard := none }) rfl (fun K' hK => ?_) AllL.nil
          rw [if_pos (by rfl)]
          have hG := G3.out
          refine wp_append_lies _ (.tmp 30) (.tmp 32) 33 rfl (b + 1) 23 i0 (.agg #[.string ⟨#[]⟩, .string ⟨#[]⟩, .string ⟨#[]⟩, .string ⟨#[]⟩, .int .i64 0]) 5 72 Tryz.underlying33 hi0 hi1 hi3 hi4 rfl (by decide) ((gpF f (x.id)).getD (.slice none 0 0)) (grpG EntD.id (l.take i) (x.id)).length (rowC entCells (grpG EntD.id (l.take i) (x.id))) rfl (hG.at _) ⟨bq, 0, none⟩ 1 1 [.string x.id, .string x.title, .string x.link, .string x.content, .int .i64 x.upd] rfl rfl (World.news_of_block M3) h1c (by decide) (by unfold maxLen; omega) (by omega) hG.size _ rfl ?_
          intro g cap V' hown hgr hat hlt
          have hm6 : GpMap V' b f := hG.map.same (hgr.block b hG.map.lt fun e => by have := ((hG.at (x.id)).lt b e.symm).1; omega)
          have hfar : ∀ o u, V3.cell? ⟨bx, o, none⟩ = some u → V'.cell? ⟨bx, o, none⟩ = some u := fun o u h => hgr.cell h fun e => HFR.out (x.id) bx e.symm rfl
          have S6 : V'.cell? ⟨bx, 0, none⟩ = some (.string x.id) ∧ V'.cell? ⟨bx, 1, none⟩ = some (.string x.title) ∧ V'.cell? ⟨bx, 2, none⟩ = some (.string x.link) ∧ V'.cell? ⟨bx, 3, none⟩ = some (.string x.content) ∧ V'.cell? ⟨bx, 4, none⟩ = some (.int .i64 x.upd) ∧ GpMap V' b f := by
            obtain ⟨z0, z1, z2, z3, z4, z5⟩ := SD3
            exact ⟨hfar _ _ z0, hfar _ _ z1, hfar _ _ z2, hfar _ _ z3, hfar _ _ z4, hm6⟩
          refine hK _ _ S6 ?_
          clear hK K'
          try simp only [Act.put, List.setIfInBounds_toArray, List.set_cons_zero, List.set_cons_succ]
          refine anyL_ready (rs := [12]) (by kernel_rfl) (by simp) ?_
          refine AllL.last (o := { dst := none, op := Go.Op.mapUpdate 106 (Go.Operand.tmp 22) (Go.Operand.tmp 25) (Go.Operand.tmp 33), type := 0, pos := "combine.go:36", after := #[{ on := 0, ground := Go.Ground.data }, { on := 3, ground := Go.Ground.data }, { on := 11, ground := Go.Ground.data }, { on := 11, ground := Go.Ground.chain }, { on := 0, ground := Go.Ground.phase }, { on := 1, ground := Go.Ground.phase }, { on := 2, ground := Go.Ground.phase }, { on := 3, ground := Go.Ground.phase }, { on := 4, ground := Go.Ground.phase }, { on := 5, ground := Go.Ground.phase }, { on := 6, ground := Go.Ground.phase }, { on := 7, ground := Go.Ground.phase }, { on := 8, ground := Go.Ground.phase }, { on := 9, ground := Go.Ground.phase }, { on := 10, ground := Go.Ground.phase }, { on := 11, ground := Go.Ground.phase }], guard := none }) rfl (by decide) (fun K' hK => ?_)
          rw [if_pos (by rfl)]
          obtain ⟨V'', hrun, hm7, hg7⟩ := World.ownsMap.update hm6 gp_law Tryz.underlying106 (by unfold maxLen; omega) (Go.WideMaps.keyOf_string_mk Tryz.underlying9 hks) (show slElem (.slice (some ⟨g, 0, none⟩) ((grpG EntD.id (l.take i) (x.id)).length + 1) cap) = some (.held _, []) from rfl)
          have hB7 := hG.below (x.id) D3.out (by omega) (Nat.le_trans (by omega) hG.size) hgr hg7
          have hG7 := hG.put (x := x) rfl rfl hgr hown hat hm7 hg7
          have HB7 := Lib.hid hB7
          have HG7 := Lib.hid hG7
          clear hm6 hm7 hg7 hgr hown hat hlt hB7 hG7 hG SD3 D3 M3 G3 S6 hfar
          go_simp
          refine hK _ _ ?_
          clear hK K' hrun
          try simp only [Act.put, List.setIfInBounds_toArray, List.set_cons_zero, List.set_cons_succ]
          refine anyL_done (by kernel_rfl) ?_ _
          go_wp2
          go_roundw
          case rel => exact ⟨i + 1, _ :: f, by omega, by go_num, congrArg (· + 1) hfl, by rw [HTK.out]; exact HG7.out, HB7.out⟩
          case measure => simp [RowKit.intOf]; omega
      · rw [if_pos (by rfl)]
        go_simp
        obtain ⟨V1, hV1⟩ : ∃ V, V = Wd.alloc (.cells #[.string x.id, .string x.title, .string x.link, .string x.content, .int .i64 x.upd] 23) := ⟨_, rfl⟩
        obtain ⟨bq, hbq⟩ : ∃ n, n = Wd.heap.size := ⟨_, rfl⟩
        have bb : Below Wd.heap.size Wd V1 := by rw [hV1]; exact (Below.refl _ _).alloc (Nat.le_refl _) _
        have M1 : MBlk V1 bq #[.string x.id, .string x.title, .string x.link, .string x.content, .int .i64 x.upd] 23 := by rw [hV1, hbq]; exact heap_alloc_new _ _
        have SD1 := HSB.out _ _ bb SD0
        have D1 := Lib.hid (D0.out.trans (bb.mono D0.out.size))
        have G1 := Lib.hid (G0.out.more bb)
        simp only [← hV1, ← hbq]
        refine hK _ _ SD1 ?_
        clear hK K' hV1 hbq bb SD0 D0 G0
        try simp only [Act.put, List.setIfInBounds_toArray, List.set_cons_zero, List.set_cons_succ]
        refine anyL_ready (rs := [3]) (by kernel_rfl) (by simp) ?_
        refine AllL.cons (o := { dst := some 25, op := Go.Op.call { callee := Go.Callee.value (Go.Operand.tmp 23), args := #[Go.Operand.tmp 24], argTypes := #[23] }, type := 9, pos := "combine.go:36", after := #[{ on := 1, ground := Go.Ground.data }, { on := 2, ground := Go.Ground.data }], guard := none }) rfl (fun K' hK => ?_) AllL.nil
        rw [if_pos (by rfl)]
        go_simp
        go_at_call 57
        refine (cI _).mono ?_
        rintro e2 V2 ⟨rfl, bb⟩
        have SD2 := HSB.out _ _ bb SD1
        have D2 := Lib.hid (D1.out.trans (bb.mono D1.out.size))
        have G2 := Lib.hid (G1.out.more bb)
        have M2 := M1.more bb
        refine hK _ _ SD2 ?_
        clear hK K' bb SD1 D1 G1 M1
        try simp only [Act.put, List.setIfInBounds_toArray, List.set_cons_zero, List.set_cons_succ]
        refine anyL_ready (rs := [7]) (by kernel_rfl) (by simp) ?_
        refine AllL.cons (o := { dst := some 29, op := Go.Op.call { callee := Go.Callee.value (Go.Operand.tmp 27), args := #[Go.Operand.tmp 28], argTypes := #[23] }, type := 9, pos := "combine.go:36", after := #[{ on := 5, ground := Go.Ground.data }, { on := 6, ground := Go.Ground.data }, { on := 3, ground := Go.Ground.chain }], guard := none }) rfl (fun K' hK => ?_) AllL.nil
        rw [if_pos (by rfl)]
        go_simp
        go_at_call 57
        refine (cI _).mono ?_
        rintro e3 V3 ⟨rfl, bb⟩
        have SD3 := HSB.out _ _ bb SD2
        have D3 := Lib.hid (D2.out.trans (bb.mono D2.out.size))
        have G3 := Lib.hid (G2.out.more bb)
        have M3 := M2.more bb
        refine hK _ _ SD3 ?_
        clear hK K' bb SD2 D2 G2 M2
        try simp only [Act.put, List.setIfInBounds_toArray, List.set_cons_zero, List.set_cons_succ]
        refine anyL_take (i := 8) (oi := { dst := some 30, op := Go.Op.lookup 106 (Go.Operand.tmp 26) (Go.Operand.tmp 29) false, type := 33, pos := "combine.go:36", after := #[{ on := 4, ground := Go.Ground.data }, { on := 7, ground := Go.Ground.data }], guard := none }) (v := ?_) rfl (by decide) (by kernel_rfl) (by kernel_rfl) (by kernel_rfl) (by kernel_rfl) (fun _ _ _ h => h) (Or.inl ⟨by rfl, ?_⟩) SD3 ?_
        rotate_left
        · intro wz hSz
          obtain ⟨z0, z1, z2, z3, z4, z5⟩ := hSz
          have hlk := z5.look Tryz.underlying106 (nz_zeroSE wz) (x.id) hks
          go_simp
          (try with_reducible rfl)
        try simp only [Act.put, List.setIfInBounds_toArray, List.set_cons_zero, List.set_cons_succ]
        refine anyL_ready (rs := [11]) (by kernel_rfl) (by simp) ?_
        refine AllL.cons (o := { dst := some 33, op := Go.Op.call { callee := Go.Callee.builtin Go.Builtin.append, args := #[Go.Operand.tmp 30, Go.Operand.tmp 32], argTypes := #[33, 33] }, type := 33, pos := "combine.go:36", after := #[{ on := 8, ground := Go.Ground.data }, { on := 10, ground := Go.Ground.data }, { on := 7, ground := Go.Ground.chain }], guard := none }) rfl (fun K' hK => ?_) AllL.nil
        rw [if_pos (by rfl)]
        have hG := G3.out
        refine wp_append_lies _ (.tmp 30) (.tmp 32) 33 rfl (b + 1) 23 i0 (.agg #[.string ⟨#[]⟩, .string ⟨#[]⟩, .string ⟨#[]⟩, .string ⟨#[]⟩, .int .i64 0]) 5 72 Tryz.underlying33 hi0 hi1 hi3 hi4 rfl (by decide) ((gpF f (x.id)).getD (.slice none 0 0)) (grpG EntD.id (l.take i) (x.id)).length (rowC entCells (grpG EntD.id (l.take i) (x.id))) rfl (hG.at _) ⟨bq, 0, none⟩ 1 1 [.string x.id, .string x.title, .string x.link, .string x.content, .int .i64 x.upd] rfl rfl (World.news_of_block M3) h1c (by decide) (by unfold maxLen; omega) (by omega) hG.size _ rfl ?_
        intro g cap V' hown hgr hat hlt
        have hm6 : GpMap V' b f := hG.map.same (hgr.block b hG.map.lt fun e => by have := ((hG.at (x.id)).lt b e.symm).1; omega)
        have hfar : ∀ o u, V3.cell? ⟨bx, o, none⟩ = some u → V'.cell? ⟨bx, o, none⟩ = some u := fun o u h => hgr.cell h fun e => HFR.out (x.id) bx e.symm rfl
        have S6 : V'.cell? ⟨bx, 0, none⟩ = some (.string x.id) ∧ V'.cell? ⟨bx, 1, none⟩ = some (.string x.title) ∧ V'.cell? ⟨bx, 2, none⟩ = some (.string x.link) ∧ V'.cell? ⟨bx, 3, none⟩ = some (.string x.content) ∧ V'.cell? ⟨bx, 4, none⟩ = some (.int .i64 x.upd) ∧ GpMap V' b f := by
          obtain ⟨z0, z1, z2, z3, z4, z5⟩ := SD3
          exact ⟨hfar _ _ z0, hfar _ _ z1, hfar _ _ z2, hfar _ _ z3, hfar _ _ z4, hm6⟩
        refine hK _ _ S6 ?_
        clear hK K'
        try simp only [Act.put, List.setIfInBounds_toArray, List.set_cons_zero, List.set_cons_succ]
        refine anyL_ready (rs := [12]) (by kernel_rfl) (by simp) ?_
        refine AllL.last (o := { dst := none, op := Go.Op.mapUpdate 106 (Go.Operand.tmp 22) (Go.Operand.tmp 25) (Go.Operand.tmp 33), type := 0, pos := "combine.go:36", after := #[{ on := 0, ground := Go.Ground.data }, { on := 3, ground := Go.Ground.data }, { on := 11, ground := Go.Ground.data }, { on := 11, ground := Go.Ground.chain }, { on := 0, ground := Go.Ground.phase }, { on := 1, ground := Go.Ground.phase }, { on := 2, ground := Go.Ground.phase }, { on := 3, ground := Go.Ground.phase }, { on := 4, ground := Go.Ground.phase }, { on := 5, ground := Go.Ground.phase }, { on := 6, ground := Go.Ground.phase }, { on := 7, ground := Go.Ground.phase }, { on := 8, ground := Go.Ground.phase }, { on := 9, ground := Go.Ground.phase }, { on := 10, ground := Go.Ground.phase }, { on := 11, ground := Go.Ground.phase }], guard := none }) rfl (by decide) (fun K' hK => ?_)
        rw [if_pos (by rfl)]
        obtain ⟨V'', hrun, hm7, hg7⟩ := World.ownsMap.update hm6 gp_law Tryz.underlying106 (by unfold maxLen; omega) (Go.WideMaps.keyOf_string_mk Tryz.underlying9 hks) (show slElem (.slice (some ⟨g, 0, none⟩) ((grpG EntD.id (l.take i) (x.id)).length + 1) cap) = some (.held _, []) from rfl)
        have hB7 := hG.below (x.id) D3.out (by omega) (Nat.le_trans (by omega) hG.size) hgr hg7
        have hG7 := hG.put (x := x) rfl rfl hgr hown hat hm7 hg7
        have HB7 := Lib.hid hB7
        have HG7 := Lib.hid hG7
        clear hm6 hm7 hg7 hgr hown hat hlt hB7 hG7 hG SD3 D3 M3 G3 S6 hfar
        go_simp
        refine hK _ _ ?_
        clear hK K' hrun
        try simp only [Act.put, List.setIfInBounds_toArray, List.set_cons_zero, List.set_cons_succ]
        refine anyL_done (by kernel_rfl) ?_ _
        go_wp2
        go_roundw
        case rel => exact ⟨i + 1, _ :: f, by omega, by go_num, congrArg (· + 1) hfl, by rw [HTK.out]; exact HG7.out, HB7.out⟩
        case measure => simp [RowKit.intOf]; omega
    · have hil : i = l.length := by omega
      subst hil
      have hiz : ¬ (l.length : Int) < (l.length : Int) := by omega
      rw [List.take_length] at hG
      obtain ⟨wo, rfl⟩ : ∃ wo, wo = wr := ⟨_, rfl⟩
      have hown : GpMap wo b f := hG.map
      have HG := Lib.hid hG
      have HBR := Lib.hid hbr
      have hfn : f.length ≤ 1000000 := by omega
      have hgl : ∀ q, (grpG EntD.id l q).length ≤ 1000000 := fun q => Nat.le_trans (List.length_filter_le ..) hn
      have HGL := Lib.hid hgl
      have hLo : ∀ j ∈ L, j < wo.heap.size := fun j hj => Nat.lt_of_lt_of_le (HLW.out j hj) hzr
      have HLO := Lib.hid hLo
      clear hG hbr hfl hgl hLo
      go_wp2_with (first | (at_range; refine wpList_range_own _ rfl _ 106 rfl 9 33 gp_law Tryz.underlying106 slElem b f.length (gpD f) rfl hown ?_; intro w0 hrg0 hg0 hs0) | go_in)
      (try go_frame)
      go_loopw [12] (fun u wr => ∃ (done : List ByteArray) (outs : List EntD) (v : Value) (left : Lit → Bool) (cnt : Nat), v = u ∧ wr.ranges Tryz.prog 9 slElem b wo.heap.size f.length (gpD f) left cnt ∧ RgAt f done left ∧ PairL (fun q y => lateG ltE (grpG EntD.id l q) = some y) done outs ∧ OutAt 23 5 entCells OkT (wo.heap.size + 1) (wo.heap.size :: L) v outs wr ∧ Below wo.heap.size wo wr) (fun _ wr => wr.rangeLeft b wo.heap.size)
      case atStart => exact ⟨[], [], _, _, _, rfl, hrg0, RgAt.start f, .nil, OutAt.nil w0 (by omega), (Below.refl wo.heap.size wo).grown hg0 (Nat.le_refl _) (fun j hj => by cases hj)⟩
      case round =>
        clear hown hrg0 hg0 hs0
        obtain ⟨done, outs, v, left, cnt, rfl, hrg, hRg, hP, hO, hbo⟩ := hrel
        have hG2 := HG.out.more hbo
        have hmem : ∀ q, q ∈ done → gpF f q ≠ none := hRg.mem
        have hlen : outs.length ≤ 1000000 := by
          rw [hP.len]
          exact Nat.le_trans (keys_le hRg.nodup hmem HG.out.void) hn
        have HRg := Lib.hid hRg
        have HP := Lib.hid hP
        have HO2 := Lib.hid hO
        have HBO := Lib.hid hbo
        have HLEN := Lib.hid hlen
        clear hRg hP hO hmem hG2
        go_wp2_with (first | (at_next; refine wpList_next_ranges _ rfl _ rfl 9 gp_law slElem id id (fun key _ _ => ⟨key, rfl⟩) (fun v _ _ => ⟨v, rfl⟩) b wo.heap.size f.length _ _ _ rfl hrg ?_ ?_) | go_in)
        · intro _ hl0
          have hds := HRg.out.all hl0
          have cS := nz_sortE outs v wr _ HO2.out.row (by omega)
          have HF : Hid (∀ os' w', os'.Perm outs → (os'.Pairwise fun a b => ¬ cmpE b a < 0) → NewRow 5 entCells (wo.heap.size + 1) v os' w' → wr.grownBy w' v.ownBlock → (∃ ys, ys = addsE [] l ∧ NewRow 5 entCells w.heap.size v ys w' ∧ (∀ y ∈ ys, OkT (holes w' L) y) ∧ Below w.heap.size w w')) := fun os' w' hp hs hN hg => by
            have hB := HBR.out.trans (HBO.out.mono HBR.out.size)
            refine ⟨os', grpE_ok HRg.out.nodup hds HG.out.void HP.out hp hs, hN.mono (by have := HBR.out.size; omega), fun y hy => ?_, hB.grown hg hB.size fun j hj => by have := (HO2.out.row.lt j hj).1; have := HBR.out.size; omega⟩
            refine okT_mono _ _ y (Goes.both ?_) (HO2.out.ok y (hp.mem_iff.1 hy))
            exact fun j hj hn => ⟨fun e => hn (List.mem_append_right _ (List.mem_cons_of_mem _ e)), hg.block j hj fun e => hn (by rw [← e]; simp)⟩
          clear hrg hbo hlen hl0 hds
          go_wp2_with (go_at_call 74; refine cS.mono ?_; rintro e w' ⟨rfl, os', hp, hs, hN, hg⟩)
          go_ret
          obtain ⟨ys, k1, k2, k3, k4⟩ := HF.out os' _ hp hs hN hg
          exact ⟨_, ys, rfl, k1, k2, k3, k4⟩
        · intro x c kl yd yp w1 cnt1 hkey hlx hv hat hrg1 hlt hg1 hs1 hen
          obtain ⟨q, hq1, hq2⟩ := gp_inv hkey
          subst hq2
          obtain ⟨hnq, hsome, hRg1⟩ := HRg.out.step hlx
          obtain ⟨vq, hvq⟩ := Option.isSome_iff_exists.1 hsome
          have hcv : c = vq := by
            have h1 := hat (.held c)
            rw [gpD_at, hvq] at h1
            simp only [slElem, Option.some.injEq, Prod.mk.injEq] at hv
            exact DataW.held.inj (hv.1.trans h1.symm)
          subst hcv
          have hrow := HG.out.row q c hvq
          have hne : grpG EntD.id l q ≠ [] := fun e => by
            have := (HG.out.void q).2 e
            rw [hvq] at this
            cases this
          obtain ⟨g, cap, rfl, hgb, hgl⟩ := hrow.form (List.length_pos_iff.2 hne)
          have hcap : (grpG EntD.id l q).length ≤ cap := by
            rcases hrow.2 with ⟨e, -⟩ | ⟨g', cap', cur, e, -, -, hc, -⟩
            · cases e
            · cases e; exact hc
          have hbo1 : Below wo.heap.size wo w1 := HBO.out.grown hg1 HBO.out.size (fun j hj => by cases hj; exact Nat.le_refl _)
          have hrw := RwAt.of_owns (k := 5) entCells_len (nrow_more hrow hbo1) rfl
          have hO1 := HO2.out.kept okT_mono hg1 (List.mem_cons_self) (Nat.lt_succ_self _)
          have hbw1 := HBR.out.trans (hbo1.mono HBR.out.size)
          obtain ⟨vb, hvb⟩ : ∃ vb, vb = v.ownBlock.toList ++ (wo.heap.size :: L) := ⟨_, rfl⟩
          have hwz : wo.heap.size < w1.heap.size := hrg1.lt
          have hvl : ∀ j ∈ vb, j < w1.heap.size := fun j hj => by
            rw [hvb] at hj
            rcases List.mem_append.1 hj with hj | hj
            · exact (hO1.row.lt j (by simpa using hj)).2
            · rcases List.mem_cons.1 hj with rfl | hj
              · exact hwz
              · have := HLO.out j hj
                omega
          have hgo : ∀ x ∈ grpG EntD.id l q, OkT (holes w1 vb) x := fun x hx => okT_mono _ _ x (Goes.both (fun j hj hn => ⟨fun e => by
              rw [hvb] at e
              rcases List.mem_append.1 e with e | e
              · have := (hO1.row.lt j (by simpa using e)).1
                have := HBR.out.size
                omega
              · rcases List.mem_cons.1 e with rfl | e
                · have := HBR.out.size
                  omega
                · exact hn e, hbw1.block j hj⟩)) (HO.out x ((mem_grpG l q x).1 hx).1)
          have hgood : ∀ x ∈ grpG EntD.id l q, EOk x := fun x hx => HE.out x ((mem_grpG l q x).1 hx).1
          obtain ⟨y, hy⟩ := late_some (mg := ltE) hne
          have cJ := nz_later1 (grpG EntD.id l q) (some ⟨g, 0, none⟩) cap w1 y hy (ents_rw hrw) hcap (Nat.le_trans (List.length_filter_le ..) (by omega)) hgood (TabW_below HT.out hbw1)
          unfold EntV at cJ
          have HY := Lib.hid hy
          clear hy
          have HRG1 := Lib.hid hRg1
          have HRGS := Lib.hid hrg1
          have HO1 := Lib.hid hO1
          have HB1 := Lib.hid hbo1
          have HVB := Lib.hid hvb
          have HGS := Lib.hid hg1
          have HRGO := Lib.hid hrg
          have HLT := Lib.hid hlt
          have HBLT := Lib.hid HG.out.lt
          clear hRg1 hrg1 hO1 hbo1 hvb hg1 hrg hlt hcap hrw hgo hgood hvl hbw1 hwz hrow hne hgb hgl hsome hnq hat hv hkey hlx hvq hs1 hbo hlen
          go_wp2_with fail
          refine cJ.mono ?_
          rintro e w4 ⟨rfl, b4⟩
          have hOk4 : OkT (holes w4 vb) y := trivial
          have hO4 := HO1.out.more okT_mono b4
          rw [HVB.out] at hOk4
          obtain ⟨W6, hW6⟩ : ∃ W6, W6 = w4.alloc (.cells #[.string y.id, .string y.title, .string y.link, .string y.content, .int .i64 y.upd] 23) := ⟨_, rfl⟩
          have hb6 : Below w4.heap.size w4 W6 := by rw [hW6]; exact (Below.refl _ _).alloc (Nat.le_refl _) _
          have hnews : ∀ j u, ([.string y.id, .string y.title, .string y.link, .string y.content, .int .i64 y.upd] : List Value)[j]? = some u → W6.cell? ((⟨w4.heap.size, 0, none⟩ : Addr).add j) = some u := by
            rw [hW6]
            exact World.news_of_block (heap_alloc_new w4 (.cells #[.string y.id, .string y.title, .string y.link, .string y.content, .int .i64 y.upd] 23))
          have hO6 := hO4.more okT_mono hb6
          have hOk6 := okT_mono _ _ y (Goes.below hb6).both hOk4
          have hB6 := HB1.out.trans ((b4.trans (hb6.mono b4.size)).mono HB1.out.size)
          have hbg : w1.grownBy W6 none := ⟨(b4.trans (hb6.mono b4.size)).os, (b4.trans (hb6.mono b4.size)).tape, (b4.trans (hb6.mono b4.size)).output, (b4.trans (hb6.mono b4.size)).size, fun k hk _ => (b4.trans (hb6.mono b4.size)).block k hk⟩
          have hR6 := HRGS.out.kept hbg (by simp) (by simp)
          have hrow6 := hO6.row
          have h1c : ∀ u ∈ ([.string y.id, .string y.title, .string y.link, .string y.content, .int .i64 y.upd] : List Value), u.oneCell' = true := by
            intro u hu
            simp only [List.mem_cons, List.not_mem_nil, or_false] at hu
            rcases hu with rfl | rfl | rfl | rfl | rfl <;> rfl
          have hBw6 : wo.heap.size + 1 ≤ W6.heap.size := hO6.size
          have hLN : ([.string y.id, .string y.title, .string y.link, .string y.content, .int .i64 y.upd] : List Value).length = 1 * 5 := rfl
          have hyz := HLEN.out
          have HO6 := Lib.hid hO6
          have HOk6 := Lib.hid hOk6
          have HB6 := Lib.hid hB6
          have HR6 := Lib.hid hR6
          clear hOk4 hO4 b4 hO6 hOk6 hB6 hR6 hbg cJ hb6 HVB
          subst hW6
          go_wp2_with (at_builtin; refine wpList_append_lies _ rfl (.tmp 41) (.tmp 45) 33 rfl (wo.heap.size + 1) 23 i0 (.agg #[.string ⟨#[]⟩, .string ⟨#[]⟩, .string ⟨#[]⟩, .string ⟨#[]⟩, .int .i64 0]) 5 72 Tryz.underlying33 hi0 hi1 hi3 hi4 rfl (by decide) v outs.length (rowC entCells outs) rfl hrow6 ⟨w4.heap.size, 0, none⟩ 1 1 [.string y.id, .string y.title, .string y.link, .string y.content, .int .i64 y.upd] rfl hLN hnews h1c (by decide) (by unfold maxLen; omega) (by omega) hBw6 _ rfl ?_; intro g7 cap7 w7 hown7 hgr7 hat7 hlt7)
          have hv7 : ∀ j, v.ownBlock = some j → wo.heap.size + 1 ≤ j := fun j hj => (HO6.out.row.lt j hj).1
          have HN2 := Lib.hid (HO6.out.put okT_mono HOk6.out rfl hown7 hgr7 hat7)
          have HB7 := Lib.hid (HB6.out.grown hgr7 HB6.out.size fun j hj => by have := hv7 j hj; omega)
          have HR7 := Lib.hid (HR6.out.kept hgr7 (fun e => by have := hv7 b e.symm; have := HBLT.out; have := HG.out.size; omega) (fun e => by have := hv7 _ e.symm; omega))
          have HMS : Hid (w7.rangeLeft b wo.heap.size < wr.rangeLeft b wo.heap.size) := Lib.hid (by rw [HR7.out.left_eq, HRGO.out.left_eq]; exact HLT.out)
          clear hown7 hgr7 hat7 hlt7 hnews hrow6 h1c HO6 HOk6 HB6 HR6 hv7
          go_wp2
          go_roundw
          case rel => exact ⟨done ++ [q], outs ++ [y], _, _, _, rfl, HR7.out, HRG1.out, HP.out.snoc HY.out, HN2.out, HB7.out⟩
          case measure => exact HMS.out
set_option maxRecDepth 100000 in
theorem nz_combineEntries (l : List EntD) (p : Option Addr) (c : Nat) (w : World) (hl : EntsAt w p l) (hn : l.length ≤ 1000000) (hE : ∀ x ∈ l, EOk x) (hT : TabW w) :
    Calls Tryz.prog 38 #[.slice p l.length c] w fun e w' => ∃ v, e = .returned v ∧ NewRow 5 entCells w.heap.size v (addsE [] l) w' ∧ Below w.heap.size w w' := by
  have cC := nz_combineE l p c w [] (rw_ents hl) (fun _ _ => trivial) (fun j hj => by cases hj) hn hE hT
  clear hl hE hT
  go_enter Tryz.func38, Tryz.ntmps38
  go_wp2_with fail
  refine cC.mono ?_
  rintro e w2 ⟨v, ys, rfl, rfl, hN, -, hB⟩
  have HN := Lib.hid hN
  have HB := Lib.hid hB
  clear hN hB cC
  go_wp2
  go_ret
  exact ⟨_, rfl, HN.out, HB.out⟩
end Go.Proofs.YtbfalppeifkjdaaGreatDoor
end
