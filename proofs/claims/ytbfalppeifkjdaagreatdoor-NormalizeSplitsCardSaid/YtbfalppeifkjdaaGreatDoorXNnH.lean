/- Packed from the texts NnH. -/
import Derived.Test.YtbfalppeifkjdaaGreatDoorXMeQ
import Derived.Test.YtbfalppeifkjdaaGreatDoorXm6
section
namespace Go.Proofs.YtbfalppeifkjdaaGreatDoor
open Go.RowKit
def fcZ : FC := ⟨⟨[], ⟨#[]⟩, ⟨#[]⟩, ⟨#[]⟩, 0, []⟩, none, 0, none, 0⟩
theorem feedX_cc (f : FeedD) : feedX f = if chkLs (f.path ++ [f.id, f.title, f.link]) = 0 then (if ccX (f.path.map colB) (colB f.id) f.upd = 0 then entsX f.ents else ccX (f.path.map colB) (colB f.id) f.upd) else chkLs (f.path ++ [f.id, f.title, f.link]) := by
  unfold feedX ccX
  have hm : (decide ((colB f.id).size = 0) || (f.path.map colB).any fun s => decide (s.size = 0)) = missF f := by unfold missF; rw [List.any_map]; rfl
  rw [hm, List.length_map]
  by_cases h0 : chkLs (f.path ++ [f.id, f.title, f.link]) = 0
  · rw [if_pos h0, if_pos h0]
    by_cases h1 : missF f = true
    · rw [if_pos h1, if_pos h1, if_neg (by decide)]
    · rw [if_neg h1, if_neg h1]
      by_cases h2 : 64 < f.path.length
      · rw [if_pos h2, if_pos h2, if_neg (by decide)]
      · rw [if_neg h2, if_neg h2]
        by_cases h3 : inTB f.upd = true
        · rw [if_pos h3, if_pos h3, if_pos rfl]
        · rw [if_neg h3, if_neg h3, if_neg (by decide)]
  · rw [if_neg h0, if_neg h0]
theorem nz_set1 {w : World} {b : Nat} {T : TypeId} {cs : Array Value} (h : MBlk w b cs T) (j : Nat) (v : Value) : MBlk (w.setCell ⟨b, j, none⟩ v) b (cs.setIfInBounds j v) T := heap_setCell_same _ b j _ _ v h
theorem nz_far1 {w : World} {b c : Nat} {T : TypeId} {cs : Array Value} (h : MBlk w c cs T) (hne : c ≠ b) (j : Nat) (v : Value) : MBlk (w.setCell ⟨b, j, none⟩ v) c cs T := by
  show (w.setCell ⟨b, j, none⟩ v).heap[c]? = _
  rw [Below.heap_setCell _ _ _ _ hne]
  exact h
theorem nrow_set {w : World} {B : Nat} {e : TypeId} {k n : Nat} {v : Value} {xs : List Value} (h : w.ownsRow B e k v n xs) {b : Nat} (hb : b < B) (j : Nat) (u : Value) : (w.setCell ⟨b, j, none⟩ u).ownsRow B e k v n xs :=
  nrow_same h fun g hg => Below.heap_setCell _ _ _ _ (by have := (h.lt g hg).1; show g ≠ b; omega)
theorem nz_newset {α : Type} {k : Nat} {enc : α → List Value} {B : Nat} {v : Value} {xs : List α} {w : World} (h : NewRow k enc B v xs w) {b : Nat} (hb : b < B) (j : Nat) (u : Value) : NewRow k enc B v xs (w.setCell ⟨b, j, none⟩ u) := by
  obtain ⟨p, cap, e, h0, hx⟩ := h
  refine ⟨p, cap, e, h0, fun hne => ?_⟩
  obtain ⟨g, hg, hB, hlt, hc⟩ := hx hne
  have hs : (w.setCell ⟨b, j, none⟩ u).heap[g]? = w.heap[g]? := Below.heap_setCell _ _ _ _ (by show g ≠ b; omega)
  refine ⟨g, hg, hB, ?_, fun i hi c u hu => ⟨(World.cell?_of_block hs).trans (hc i hi c u hu).1, (World.frozen?_of_block hs).trans (hc i hi c u hu).2⟩⟩
  exact (Array.getElem?_eq_some_iff.1 (hs.trans (Array.getElem?_eq_some_iff.2 ⟨hlt, rfl⟩))).1
set_option maxRecDepth 100000 in
set_option maxHeartbeats 32000000 in
theorem nz_Feed (f : FeedD) (v : Value) (w : World) (M : List Nat) (hf : FeedIs w f v) (hz : FSmU f) (hU : ∀ x ∈ f.ents, -9223372036854775808 ≤ x.upd ∧ x.upd ≤ 9223372036854775807) (hM : ∀ j ∈ M, j < w.heap.size) (hT : TabW w) :
    Calls Tryz.prog 15 #[v] w fun e w' => ∃ y, e = .returned (.tuple #[.agg #[.slice y.p y.f.path.length y.c, .string y.f.id, .string y.f.title, .string y.f.link, .int .i64 y.f.upd, .slice y.q y.f.ents.length y.d], .int .i64 (feedX f)]) ∧ (feedX f = 0 → y.f = feedN f ∧ fcOk (holes w' M) y) ∧ Below w.heap.size w w' := by
  obtain ⟨p, c, q, d, rfl, hN, hE⟩ := hf
  have s1 := hz.1.id
  have s2 := hz.1.title
  have s3 := hz.1.link
  have s4 := hz.1.path
  have s5 := hz.1.plen
  have s6 := hz.1.ents
  have s7 := hz.1.elen
  obtain ⟨b, hb⟩ : ∃ b, b = w.heap.size := ⟨_, rfl⟩
  obtain ⟨W2, hW2⟩ : ∃ W2, W2 = (w.alloc (.cells #[.slice p f.path.length c, .string f.id, .string f.title, .string f.link, .int .i64 f.upd, .slice q f.ents.length d] 35)).alloc (.cells #[.slice none 0 0, .string ⟨#[]⟩, .string ⟨#[]⟩, .string ⟨#[]⟩, .int .i64 0, .slice none 0 0] 35) := ⟨_, rfl⟩
  have hB : Below w.heap.size w W2 := by rw [hW2]; exact ((Below.refl _ _).alloc (Nat.le_refl _) _).alloc (by simp) _
  have hMX : MBlk W2 b #[.slice p f.path.length c, .string f.id, .string f.title, .string f.link, .int .i64 f.upd, .slice q f.ents.length d] 35 := by
    rw [hW2, hb]
    exact MBlk.more (show MBlk (w.alloc _) w.heap.size _ _ from heap_alloc_new w _) ((Below.refl _ _).alloc (Nat.le_refl _) _)
  have hR : MBlk W2 (b + 1) #[.slice none 0 0, .string ⟨#[]⟩, .string ⟨#[]⟩, .string ⟨#[]⟩, .int .i64 0, .slice none 0 0] 35 := by
    have := heap_alloc_new (w.alloc (.cells #[.slice p f.path.length c, .string f.id, .string f.title, .string f.link, .int .i64 f.upd, .slice q f.ents.length d] 35)) (.cells #[.slice none 0 0, .string ⟨#[]⟩, .string ⟨#[]⟩, .string ⟨#[]⟩, .int .i64 0, .slice none 0 0] 35)
    rw [World.size_alloc] at this
    rw [hW2, hb]
    exact this
  have hz2 : W2.heap.size = b + 2 := by rw [hW2, hb]; simp
  obtain ⟨W3, hW3⟩ : ∃ W3, W3 = W2.alloc (.cells #[.string f.id, .string f.title, .string f.link] 9) := ⟨_, rfl⟩
  have b3 : Below W2.heap.size W2 W3 := by rw [hW3]; exact (Below.refl _ _).alloc (Nat.le_refl _) _
  have hM3 : MBlk W3 W2.heap.size #[.string f.id, .string f.title, .string f.link] 9 := by rw [hW3]; exact heap_alloc_new _ _
  obtain ⟨W4, hW4⟩ : ∃ W4, W4 = W3.alloc (.cells #[.slice p f.path.length c, .slice (some ⟨W2.heap.size, 0, none⟩) 3 3] 32) := ⟨_, rfl⟩
  have b4 : Below W3.heap.size W3 W4 := by rw [hW4]; exact (Below.refl _ _).alloc (Nat.le_refl _) _
  have hM4 : MBlk W4 W3.heap.size #[.slice p f.path.length c, .slice (some ⟨W2.heap.size, 0, none⟩) 3 3] 32 := by rw [hW4]; exact heap_alloc_new _ _
  have hB4 : Below w.heap.size w W4 := (hB.trans (b3.mono hB.size)).trans (b4.mono (hB.trans (b3.mono hB.size)).size)
  have b24 : Below W2.heap.size W2 W4 := b3.trans (b4.mono b3.size)
  obtain ⟨names, hnames⟩ : ∃ l, l = f.path ++ [f.id, f.title, f.link] := ⟨_, rfl⟩
  have cC := nz_concatS [(p, c, f.path), (some ⟨W2.heap.size, 0, none⟩, 3, [f.id, f.title, f.link])] ⟨W3.heap.size, 0, none⟩ 2 W4 (fun i hi => by
      rw [add_zero3]
      match i, hi with
      | 0, _ => exact hM4.cell 0
      | 1, _ => exact hM4.cell 1) (fun x hx => by
      simp only [List.mem_cons, List.not_mem_nil, or_false] at hx
      rcases hx with rfl | rfl
      · exact nam_rw (hN.below hB4)
      · refine nam_rw fun i hi => ⟨_, rfl, ?_⟩
        rw [add_zero3]
        have hM5 := hM3.more b4
        match i, hi with
        | 0, _ => exact hM5.cell 0
        | 1, _ => exact hM5.cell 1
        | 2, _ => exact hM5.cell 2) (by simp) (by simp; omega)
  rw [show W3.heap.size = W2.heap.size + 1 by rw [hW3]; simp] at cC
  rw [show ([(p, c, f.path), (some ⟨W2.heap.size, 0, none⟩, 3, [f.id, f.title, f.link])] : List (Option Addr × Nat × List ByteArray)).flatMap (fun x => x.2.2) = names by rw [hnames]; simp] at cC
  have hns : ∀ s ∈ names, s.size ≤ 70368744177664 := fun s hs => by
    rw [hnames] at hs
    rcases List.mem_append.1 hs with hs | hs
    · have := s4 s hs
      omega
    · simp only [List.mem_cons, List.not_mem_nil, or_false] at hs
      rcases hs with rfl | rfl | rfl <;> omega
  have hnl : names.length ≤ 10000 := by rw [hnames, List.length_append]; simp; omega
  have hXf := feedX_cc f
  rw [← hnames] at hXf
  obtain ⟨XF, hXF⟩ : ∃ X, feedX f = X := ⟨_, rfl⟩
  rw [hXF] at hXf ⊢
  obtain ⟨n, hn⟩ : ∃ n, chkLs names = n := ⟨_, rfl⟩
  rw [hn] at hXf
  have HXF := Lib.hid hXf
  have HB2 := Lib.hid hB
  have HMX := Lib.hid hMX
  have HR := Lib.hid hR
  have HN := Lib.hid hN
  have HE := Lib.hid hE
  have HZ := Lib.hid hz
  have HM := Lib.hid hM
  have HT := Lib.hid hT
  have HEU := Lib.hid hU
  have HNS := Lib.hid hns
  have HBW := Lib.hid hb
  have HZ2 := Lib.hid hz2
  have HB4 := Lib.hid hB4
  have HB24 := Lib.hid b24
  have HNN := Lib.hid hn
  have HXX := Lib.hid hXF
  clear hU hXf hB hR hN hE hz hM hT hns hb hz2 hB4 b24 hn s1 s2 s3 s4 s5 s6 s7 hnames hM3 hM4 b3 b4 hXF
  have x0 := hMX.cell 0
  have x1 := hMX.cell 1
  have x2 := hMX.cell 2
  have x3 := hMX.cell 3
  have x4 := hMX.cell 4
  have x5 := hMX.cell 5
  simp only [List.getElem?_toArray, List.getElem?_cons_zero, List.getElem?_cons_succ] at x0 x1 x2 x3 x4 x5
  have u0 := hMX.fr 0
  have u1 := hMX.fr 1
  have u2 := hMX.fr 2
  have u3 := hMX.fr 3
  have u4 := hMX.fr 4
  have u5 := hMX.fr 5
  clear hMX
  go_enter Tryz.func15, Tryz.ntmps15
  go_upto_region 1 with fail
  simp only [← hW2, ← HBW.out]
  clear hW2
  go_wp2_with fail
  simp only [← hW3]
  simp only [← hW4]
  clear hW3 hW4
  refine cC.mono ?_
  rintro e w5 ⟨v5, rfl, hv5, b5⟩
  obtain ⟨p5, c5, rfl⟩ := jrow_val hv5
  have hB5 := HB4.out.trans (b5.mono HB4.out.size)
  have cK := nz_checkStrings names p5 c5 w5 (rw_nam (RwAt.of_owns strC_len hv5 rfl)) HNS.out (by omega) (mu_below HT.out.1 hB5)
  rw [HNN.out] at cK
  have H25 := Lib.hid (HB24.out.trans (b5.mono HB24.out.size))
  have HB5 := Lib.hid hB5
  clear cC hv5 b5 hB5 HNS HB4 HB24 x0 x1 x2 x3 x4 x5 u0 u1 u2 u3 u4 u5
  obtain ⟨N, hNz⟩ : ∃ N : Int, N = (n : Int) := ⟨_, rfl⟩
  rw [← hNz] at cK
  have HNZ := Lib.hid hNz
  clear hNz
  go_wp2_with fail
  refine cK.mono ?_
  rintro e w6 ⟨rfl, b6⟩
  have H26 := Lib.hid (H25.out.trans (b6.mono H25.out.size))
  have HB6 := Lib.hid (HB5.out.trans (b6.mono HB5.out.size))
  clear b6 cK H25 HB5
  by_cases hz0 : N = 0
  case neg =>
    have hn0 : ¬ n = 0 := by have := HNZ.out; omega
    have hXv := HXF.out
    rw [if_neg hn0] at hXv
    have HXV := Lib.hid hXv
    have hM6 := HR.out.more H26.out
    have r0 := hM6.cell 0
    have r1 := hM6.cell 1
    have r2 := hM6.cell 2
    have r3 := hM6.cell 3
    have r4 := hM6.cell 4
    have r5 := hM6.cell 5
    simp only [List.getElem?_toArray, List.getElem?_cons_zero, List.getElem?_cons_succ] at r0 r1 r2 r3 r4 r5
    have t0 := hM6.fr 0
    have t1 := hM6.fr 1
    have t2 := hM6.fr 2
    have t3 := hM6.fr 3
    have t4 := hM6.fr 4
    have t5 := hM6.fr 5
    clear hM6 hXv
    have HF := Lib.hid (mq_belowset6 HB6.out (show w.heap.size ≤ b + 1 by have := HBW.out; omega) (.slice none 0 0) (.string ⟨#[]⟩) (.string ⟨#[]⟩) (.string ⟨#[]⟩) (.int .i64 0) (.slice none 0 0))
    go_wp2
    exact bodyPost_ret (v := .tuple #[.agg #[.slice none 0 0, .string ⟨#[]⟩, .string ⟨#[]⟩, .string ⟨#[]⟩, .int .i64 0, .slice none 0 0], .int .i64 N]) (by simp [results, Tryz.results15, go_sem, mset_same, r0, r1, r2, r3, r4, r5]) rfl ⟨fcZ, by rw [HXV.out, HNZ.out]; rfl, fun h => absurd (HXV.out.symm.trans h) hn0, HF.out⟩
  case pos =>
    subst hz0
    have hn0 : n = 0 := by have := HNZ.out; omega
    subst hn0
    have hXv := HXF.out
    rw [if_pos rfl] at hXv
    have HXV := Lib.hid hXv
    clear hXv HXF HNZ
    have s1 := HZ.out.1.id
    have s2 := HZ.out.1.title
    have s3 := HZ.out.1.link
    have s5 := HZ.out.1.plen
    have s7 := HZ.out.1.elen
    have cP := nz_collapsed f.path p c w6 (HN.out.below HB6.out) (fun s hs => by have := HZ.out.1.path s hs; omega) (by omega)
    have k1 := fun wx => text_Collapse f.id wx (by omega)
    have k2 := fun wx => text_Collapse f.title wx (by omega)
    have k3 := fun wx => text_Collapse f.link wx (by omega)
    obtain ⟨t1, ht1⟩ : ∃ s, s = colB f.id := ⟨_, rfl⟩
    obtain ⟨t2, ht2⟩ : ∃ s, s = colB f.title := ⟨_, rfl⟩
    obtain ⟨t3, ht3⟩ : ∃ s, s = colB f.link := ⟨_, rfl⟩
    rw [show ofBytes (collapse f.id.data.toList) = t1 by rw [ht1]; rfl] at k1
    rw [show ofBytes (collapse f.title.data.toList) = t2 by rw [ht2]; rfl] at k2
    rw [show ofBytes (collapse f.link.data.toList) = t3 by rw [ht3]; rfl] at k3
    rw [← ht1] at HXV
    have HT1 := Lib.hid ht1
    have HT2 := Lib.hid ht2
    have HT3 := Lib.hid ht3
    have hz6 : b + 2 ≤ w6.heap.size := by have := H26.out.size; have := HZ2.out; omega
    have HZ6 := Lib.hid hz6
    have hMx := HMX.out.more H26.out
    have x0 := hMx.cell 0
    have x1 := hMx.cell 1
    have x2 := hMx.cell 2
    have x3 := hMx.cell 3
    have x4 := hMx.cell 4
    have x5 := hMx.cell 5
    simp only [List.getElem?_toArray, List.getElem?_cons_zero, List.getElem?_cons_succ] at x0 x1 x2 x3 x4 x5
    have u0 := hMx.fr 0
    have u1 := hMx.fr 1
    have u2 := hMx.fr 2
    have u3 := hMx.fr 3
    have u4 := hMx.fr 4
    have u5 := hMx.fr 5
    have HL5 := Lib.hid s5
    have HL7 := Lib.hid s7
    clear ht1 ht2 ht3 hMx hz6 s1 s2 s3 s5 s7
    go_wp2_with fail
    refine cP.mono ?_
    rintro e w7 ⟨v7, rfl, hv7, b7⟩
    obtain ⟨p7, c7, rfl⟩ := jrow_val hv7
    have h27 := H26.out.trans (b7.mono H26.out.size)
    obtain ⟨W8, hW8⟩ : ∃ W8, W8 = w7.setCell ⟨b, 0, none⟩ (.slice p7 f.path.length c7) := ⟨_, rfl⟩
    have hM8 : MBlk W8 b #[.slice p7 f.path.length c7, .string f.id, .string f.title, .string f.link, .int .i64 f.upd, .slice q f.ents.length d] 35 := by rw [hW8]; exact nz_set1 (HMX.out.more h27) 0 _
    have hR8 : MBlk W8 (b + 1) #[.slice none 0 0, .string ⟨#[]⟩, .string ⟨#[]⟩, .string ⟨#[]⟩, .int .i64 0, .slice none 0 0] 35 := by rw [hW8]; exact nz_far1 (HR.out.more h27) (by omega) 0 _
    have hB8 : Below w.heap.size w W8 := by rw [hW8]; exact (HB6.out.trans (b7.mono HB6.out.size)).setCell (p := ⟨b, 0, none⟩) (by have := HBW.out; show w.heap.size ≤ b; omega) _
    have hv8 : W8.ownsRow w6.heap.size 9 1 (.slice p7 f.path.length c7) f.path.length (rowC strC (f.path.map colB)) := by rw [hW8]; exact nrow_set hv7 (by have := HZ6.out; omega) 0 _
    have y0 := (HMX.out.more h27).cell 0
    simp only [List.getElem?_toArray, List.getElem?_cons_zero] at y0
    have y1 := (HMX.out.more h27).fr 0
    have HM8 := Lib.hid hM8
    have HR8 := Lib.hid hR8
    have HB8 := Lib.hid hB8
    have HV8 := Lib.hid hv8
    have SD : W8.cell? ⟨b, 1, none⟩ = some (.string f.id) ∧ W8.cell? ⟨b, 2, none⟩ = some (.string f.title) ∧ W8.cell? ⟨b, 3, none⟩ = some (.string f.link) := ⟨hM8.cell 1, hM8.cell 2, hM8.cell 3⟩
    clear hM8 hR8 hB8 hv8 h27 hv7 b7 cP x0 x1 x2 x3 x4 x5 u0 u1 u2 u3 u4 u5 HMX HR
    have HSB := Lib.hid (fun (u1 u2 : World) (hb : Below u1.heap.size u1 u2) (hss : u1.cell? ⟨b, 1, none⟩ = some (.string f.id) ∧ u1.cell? ⟨b, 2, none⟩ = some (.string f.title) ∧ u1.cell? ⟨b, 3, none⟩ = some (.string f.link)) => (show u2.cell? ⟨b, 1, none⟩ = some (.string f.id) ∧ u2.cell? ⟨b, 2, none⟩ = some (.string f.title) ∧ u2.cell? ⟨b, 3, none⟩ = some (.string f.link) from ⟨mcell hb hss.1, mcell hb hss.2.1, mcell hb hss.2.2⟩))
    go_upto_region 5 with fail
    simp only [← hW8]
    clear hW8 y0 y1
    have SD0 := HSB.out _ _ ((Below.refl _ _).drew) SD
    clear SD
    have HD := Lib.hid ((Below.refl W8.heap.size W8).drew)
    refine wp_region_late (S := fun w' => w'.cell? ⟨b, 1, none⟩ = some (.string f.id) ∧ w'.cell? ⟨b, 2, none⟩ = some (.string f.title) ∧ w'.cell? ⟨b, 3, none⟩ = some (.string f.link)) (D := [10, 11, 12, 13, 14]) (by kernel_rfl) ?_
    refine anyL_take (i := 0) (oi := { dst := some 28, op := Go.Op.fieldAddr 35 (Go.Operand.tmp 1) 1, type := 0, pos := "normalize.go:32", after := #[], guard := none }) (v := ?_) rfl (by decide) (by kernel_rfl) (by kernel_rfl) (by kernel_rfl) (by kernel_rfl) (fun _ _ _ h => h) (Or.inl ⟨by rfl, ?_⟩) SD0 ?_
    rotate_left
    · intro wz hSz
      skip
      go_simp
      (try with_reducible rfl)
    try simp only [Act.put, List.setIfInBounds_toArray, List.set_cons_zero, List.set_cons_succ]
    refine anyL_take (i := 1) (oi := { dst := some 29, op := Go.Op.load 9 (Go.Operand.tmp 28), type := 9, pos := "normalize.go:32", after := #[{ on := 0, ground := Go.Ground.data }], guard := none }) (v := ?_) rfl (by decide) (by kernel_rfl) (by kernel_rfl) (by kernel_rfl) (by kernel_rfl) (fun _ _ _ h => h) (Or.inl ⟨by rfl, ?_⟩) SD0 ?_
    rotate_left
    · intro wz hSz
      obtain ⟨z1, z2, z3⟩ := hSz
      go_simp
      (try with_reducible rfl)
    try simp only [Act.put, List.setIfInBounds_toArray, List.set_cons_zero, List.set_cons_succ]
    refine anyL_take (i := 3) (oi := { dst := some 31, op := Go.Op.fieldAddr 35 (Go.Operand.tmp 1) 2, type := 0, pos := "normalize.go:32", after := #[], guard := none }) (v := ?_) rfl (by decide) (by kernel_rfl) (by kernel_rfl) (by kernel_rfl) (by kernel_rfl) (fun _ _ _ h => h) (Or.inl ⟨by rfl, ?_⟩) SD0 ?_
    rotate_left
    · intro wz hSz
      skip
      go_simp
      (try with_reducible rfl)
    try simp only [Act.put, List.setIfInBounds_toArray, List.set_cons_zero, List.set_cons_succ]
    refine anyL_take (i := 4) (oi := { dst := some 32, op := Go.Op.load 9 (Go.Operand.tmp 31), type := 9, pos := "normalize.go:32", after := #[{ on := 3, ground := Go.Ground.data }], guard := none }) (v := ?_) rfl (by decide) (by kernel_rfl) (by kernel_rfl) (by kernel_rfl) (by kernel_rfl) (fun _ _ _ h => h) (Or.inl ⟨by rfl, ?_⟩) SD0 ?_
    rotate_left
    · intro wz hSz
      obtain ⟨z1, z2, z3⟩ := hSz
      go_simp
      (try with_reducible rfl)
    try simp only [Act.put, List.setIfInBounds_toArray, List.set_cons_zero, List.set_cons_succ]
    refine anyL_take (i := 6) (oi := { dst := some 34, op := Go.Op.fieldAddr 35 (Go.Operand.tmp 1) 3, type := 0, pos := "normalize.go:32", after := #[], guard := none }) (v := ?_) rfl (by decide) (by kernel_rfl) (by kernel_rfl) (by kernel_rfl) (by kernel_rfl) (fun _ _ _ h => h) (Or.inl ⟨by rfl, ?_⟩) SD0 ?_
    rotate_left
    · intro wz hSz
      skip
      go_simp
      (try with_reducible rfl)
    try simp only [Act.put, List.setIfInBounds_toArray, List.set_cons_zero, List.set_cons_succ]
    refine anyL_take (i := 7) (oi := { dst := some 35, op := Go.Op.load 9 (Go.Operand.tmp 34), type := 9, pos := "normalize.go:32", after := #[{ on := 6, ground := Go.Ground.data }], guard := none }) (v := ?_) rfl (by decide) (by kernel_rfl) (by kernel_rfl) (by kernel_rfl) (by kernel_rfl) (fun _ _ _ h => h) (Or.inl ⟨by rfl, ?_⟩) SD0 ?_
    rotate_left
    · intro wz hSz
      obtain ⟨z1, z2, z3⟩ := hSz
      go_simp
      (try with_reducible rfl)
    try simp only [Act.put, List.setIfInBounds_toArray, List.set_cons_zero, List.set_cons_succ]
    refine anyL_ready (rs := [2]) (by kernel_rfl) (by simp) ?_
    refine AllL.cons (o := { dst := some 30, op := Go.Op.call { callee := Go.Callee.value (Go.Operand.func 27), args := #[Go.Operand.tmp 29], argTypes := #[9] }, type := 9, pos := "normalize.go:32", after := #[{ on := 1, ground := Go.Ground.data }], guard := none }) rfl (fun K' hK => ?_) AllL.nil
    rw [if_pos (by rfl)]
    go_simp
    go_at_call 27
    refine (k1 _).mono ?_
    rintro e1 w1 ⟨rfl, b1⟩
    have S1 := HSB.out _ _ b1 SD0
    have HB1 := Lib.hid (HD.out.trans (b1.mono HD.out.size))
    refine hK _ _ S1 ?_
    clear hK K' b1 SD0
    try simp only [Act.put, List.setIfInBounds_toArray, List.set_cons_zero, List.set_cons_succ]
    refine anyL_take (i := 9) (oi := { dst := some 37, op := Go.Op.fieldAddr 35 (Go.Operand.tmp 1) 1, type := 0, pos := "normalize.go:32", after := #[{ on := 0, ground := Go.Ground.phase }, { on := 1, ground := Go.Ground.phase }, { on := 2, ground := Go.Ground.phase }, { on := 3, ground := Go.Ground.phase }, { on := 4, ground := Go.Ground.phase }, { on := 5, ground := Go.Ground.textOnly Go.Departure.lateStoresUnsure }, { on := 6, ground := Go.Ground.phase }, { on := 7, ground := Go.Ground.phase }, { on := 8, ground := Go.Ground.textOnly Go.Departure.lateStoresUnsure }], guard := none }) (v := ?_) rfl (by decide) (by kernel_rfl) (by kernel_rfl) (by kernel_rfl) (by kernel_rfl) (fun _ _ _ h => h) (Or.inl ⟨by rfl, ?_⟩) S1 ?_
    rotate_left
    · intro wz hSz
      skip
      go_simp
      (try with_reducible rfl)
    try simp only [Act.put, List.setIfInBounds_toArray, List.set_cons_zero, List.set_cons_succ]
    refine anyL_ready (rs := [5]) (by kernel_rfl) (by simp) ?_
    refine AllL.cons (o := { dst := some 33, op := Go.Op.call { callee := Go.Callee.value (Go.Operand.func 27), args := #[Go.Operand.tmp 32], argTypes := #[9] }, type := 9, pos := "normalize.go:32", after := #[{ on := 4, ground := Go.Ground.data }, { on := 2, ground := Go.Ground.chain }], guard := none }) rfl (fun K' hK => ?_) AllL.nil
    rw [if_pos (by rfl)]
    go_simp
    go_at_call 27
    refine (k2 _).mono ?_
    rintro e2 w2 ⟨rfl, b2⟩
    have S2 := HSB.out _ _ b2 S1
    have HB2 := Lib.hid (HB1.out.trans (b2.mono HB1.out.size))
    refine hK _ _ S2 ?_
    clear hK K' b2 S1
    try simp only [Act.put, List.setIfInBounds_toArray, List.set_cons_zero, List.set_cons_succ]
    refine anyL_ready (rs := [8]) (by kernel_rfl) (by simp) ?_
    refine AllL.cons (o := { dst := some 36, op := Go.Op.call { callee := Go.Callee.value (Go.Operand.func 27), args := #[Go.Operand.tmp 35], argTypes := #[9] }, type := 9, pos := "normalize.go:32", after := #[{ on := 7, ground := Go.Ground.data }, { on := 5, ground := Go.Ground.chain }], guard := none }) rfl (fun K' hK => ?_) AllL.nil
    rw [if_pos (by rfl)]
    go_simp
    go_at_call 27
    refine (k3 _).mono ?_
    rintro e3 w3 ⟨rfl, b3⟩
    have S3 := HSB.out _ _ b3 S2
    have HB3 := Lib.hid (HB2.out.trans (b3.mono HB2.out.size))
    refine hK _ _ S3 ?_
    clear hK K' b3 S2
    try simp only [Act.put, List.setIfInBounds_toArray, List.set_cons_zero, List.set_cons_succ]
    refine anyL_ready (rs := [10]) (by kernel_rfl) (by simp) ?_
    have hMx := HM8.out.more HB3.out
    have x0 := hMx.cell 0
    have x1 := hMx.cell 1
    have x2 := hMx.cell 2
    have x3 := hMx.cell 3
    have x4 := hMx.cell 4
    have x5 := hMx.cell 5
    simp only [List.getElem?_toArray, List.getElem?_cons_zero, List.getElem?_cons_succ] at x0 x1 x2 x3 x4 x5
    have u0 := hMx.fr 0
    have u1 := hMx.fr 1
    have u2 := hMx.fr 2
    have u3 := hMx.fr 3
    have u4 := hMx.fr 4
    have u5 := hMx.fr 5
    clear hMx
    refine AllL.last (o := { dst := none, op := Go.Op.store 9 (Go.Operand.tmp 37) (Go.Operand.tmp 30), type := 0, pos := "normalize.go:32", after := #[{ on := 9, ground := Go.Ground.data }, { on := 2, ground := Go.Ground.data }, { on := 8, ground := Go.Ground.chain }, { on := 0, ground := Go.Ground.phase }, { on := 1, ground := Go.Ground.phase }, { on := 2, ground := Go.Ground.phase }, { on := 3, ground := Go.Ground.phase }, { on := 4, ground := Go.Ground.phase }, { on := 5, ground := Go.Ground.textOnly Go.Departure.lateStoresUnsure }, { on := 6, ground := Go.Ground.phase }, { on := 7, ground := Go.Ground.phase }, { on := 8, ground := Go.Ground.textOnly Go.Departure.lateStoresUnsure }], guard := none }) rfl (by decide) (fun K' hK => ?_)
    rw [if_pos (by rfl)]
    go_simp
    refine hK _ _ ?_
    clear hK K'
    try simp only [Act.put, List.setIfInBounds_toArray, List.set_cons_zero, List.set_cons_succ]
    refine anyL_takeD (i := 11) (oi := { dst := some 38, op := Go.Op.fieldAddr 35 (Go.Operand.tmp 1) 2, type := 0, pos := "normalize.go:32", after := #[{ on := 0, ground := Go.Ground.phase }, { on := 1, ground := Go.Ground.phase }, { on := 2, ground := Go.Ground.phase }, { on := 3, ground := Go.Ground.phase }, { on := 4, ground := Go.Ground.phase }, { on := 5, ground := Go.Ground.phase }, { on := 6, ground := Go.Ground.phase }, { on := 7, ground := Go.Ground.phase }, { on := 8, ground := Go.Ground.textOnly Go.Departure.lateStoresUnsure }, { on := 9, ground := Go.Ground.phase }, { on := 10, ground := Go.Ground.phase }], guard := none }) (v := ?_) rfl (by decide) (by kernel_rfl) (by kernel_rfl) (by kernel_rfl) (fun _ _ _ h => h) (Or.inl ⟨by rfl, ?_⟩) ?_
    rotate_left
    · intro wz _
      go_simp
      (try with_reducible rfl)
    try simp only [Act.put, List.setIfInBounds_toArray, List.set_cons_zero, List.set_cons_succ]
    refine anyL_ready (rs := [12]) (by kernel_rfl) (by simp) ?_
    refine AllL.last (o := { dst := none, op := Go.Op.store 9 (Go.Operand.tmp 38) (Go.Operand.tmp 33), type := 0, pos := "normalize.go:32", after := #[{ on := 11, ground := Go.Ground.data }, { on := 5, ground := Go.Ground.data }, { on := 10, ground := Go.Ground.chain }, { on := 0, ground := Go.Ground.phase }, { on := 1, ground := Go.Ground.phase }, { on := 2, ground := Go.Ground.phase }, { on := 3, ground := Go.Ground.phase }, { on := 4, ground := Go.Ground.phase }, { on := 5, ground := Go.Ground.phase }, { on := 6, ground := Go.Ground.phase }, { on := 7, ground := Go.Ground.phase }, { on := 8, ground := Go.Ground.textOnly Go.Departure.lateStoresUnsure }, { on := 9, ground := Go.Ground.phase }, { on := 10, ground := Go.Ground.phase }], guard := none }) rfl (by decide) (fun K' hK => ?_)
    rw [if_pos (by rfl)]
    go_simp
    refine hK _ _ ?_
    clear hK K'
    try simp only [Act.put, List.setIfInBounds_toArray, List.set_cons_zero, List.set_cons_succ]
    refine anyL_takeD (i := 13) (oi := { dst := some 39, op := Go.Op.fieldAddr 35 (Go.Operand.tmp 1) 3, type := 0, pos := "normalize.go:32", after := #[{ on := 0, ground := Go.Ground.phase }, { on := 1, ground := Go.Ground.phase }, { on := 2, ground := Go.Ground.phase }, { on := 3, ground := Go.Ground.phase }, { on := 4, ground := Go.Ground.phase }, { on := 5, ground := Go.Ground.phase }, { on := 6, ground := Go.Ground.phase }, { on := 7, ground := Go.Ground.phase }, { on := 8, ground := Go.Ground.phase }, { on := 9, ground := Go.Ground.phase }, { on := 10, ground := Go.Ground.phase }, { on := 11, ground := Go.Ground.phase }, { on := 12, ground := Go.Ground.phase }], guard := none }) (v := ?_) rfl (by decide) (by kernel_rfl) (by kernel_rfl) (by kernel_rfl) (fun _ _ _ h => h) (Or.inl ⟨by rfl, ?_⟩) ?_
    rotate_left
    · intro wz _
      go_simp
      (try with_reducible rfl)
    try simp only [Act.put, List.setIfInBounds_toArray, List.set_cons_zero, List.set_cons_succ]
    refine anyL_ready (rs := [14]) (by kernel_rfl) (by simp) ?_
    refine AllL.last (o := { dst := none, op := Go.Op.store 9 (Go.Operand.tmp 39) (Go.Operand.tmp 36), type := 0, pos := "normalize.go:32", after := #[{ on := 13, ground := Go.Ground.data }, { on := 8, ground := Go.Ground.data }, { on := 12, ground := Go.Ground.chain }, { on := 0, ground := Go.Ground.phase }, { on := 1, ground := Go.Ground.phase }, { on := 2, ground := Go.Ground.phase }, { on := 3, ground := Go.Ground.phase }, { on := 4, ground := Go.Ground.phase }, { on := 5, ground := Go.Ground.phase }, { on := 6, ground := Go.Ground.phase }, { on := 7, ground := Go.Ground.phase }, { on := 8, ground := Go.Ground.phase }, { on := 9, ground := Go.Ground.phase }, { on := 10, ground := Go.Ground.phase }, { on := 11, ground := Go.Ground.phase }, { on := 12, ground := Go.Ground.phase }], guard := none }) rfl (by decide) (fun K' hK => ?_)
    rw [if_pos (by rfl)]
    go_simp
    refine hK _ _ ?_
    clear hK K'
    try simp only [Act.put, List.setIfInBounds_toArray, List.set_cons_zero, List.set_cons_succ]
    refine anyL_done (by kernel_rfl) ?_ _
    obtain ⟨V, hV⟩ : ∃ V, V = ((w3.setCell ⟨b, 1, none⟩ (.string t1)).setCell ⟨b, 2, none⟩ (.string t2)).setCell ⟨b, 3, none⟩ (.string t3) := ⟨_, rfl⟩
    have hM9 : MBlk V b #[.slice p7 f.path.length c7, .string t1, .string t2, .string t3, .int .i64 f.upd, .slice q f.ents.length d] 35 := by rw [hV]; exact nz_set1 (nz_set1 (nz_set1 (HM8.out.more HB3.out) 1 _) 2 _) 3 _
    have hR9 : MBlk V (b + 1) #[.slice none 0 0, .string ⟨#[]⟩, .string ⟨#[]⟩, .string ⟨#[]⟩, .int .i64 0, .slice none 0 0] 35 := by rw [hV]; exact nz_far1 (nz_far1 (nz_far1 (HR8.out.more HB3.out) (by omega) 1 _) (by omega) 2 _) (by omega) 3 _
    have hbw : w.heap.size ≤ b := by have := HBW.out; omega
    have hB9 : Below w.heap.size w V := by rw [hV]; exact (((HB8.out.trans (HB3.out.mono HB8.out.size)).setCell (p := ⟨b, 1, none⟩) hbw _).setCell (p := ⟨b, 2, none⟩) hbw _).setCell (p := ⟨b, 3, none⟩) hbw _
    have hb6 : b < w6.heap.size := by have := HZ6.out; omega
    have hv9 : V.ownsRow w6.heap.size 9 1 (.slice p7 f.path.length c7) f.path.length (rowC strC (f.path.map colB)) := by rw [hV]; exact nrow_set (nrow_set (nrow_set (nrow_more HV8.out HB3.out) hb6 1 _) hb6 2 _) hb6 3 _
    simp only [← hV]
    have cQ := nz_checkCollapsed (f.path.map colB) p7 c7 t1 t2 t3 f.upd q f.ents.length d V (rw_nam (RwAt.of_owns strC_len hv9 (by rw [List.length_map]))) (by rw [List.length_map]; have := HL5.out; omega)
    rw [List.length_map] at cQ
    obtain ⟨cc, hcc⟩ : ∃ n, ccX (f.path.map colB) t1 f.upd = n := ⟨_, rfl⟩
    rw [hcc] at cQ
    have hXv := HXV.out
    rw [hcc] at hXv
    have HXC := Lib.hid hXv
    obtain ⟨ccz, hccz⟩ : ∃ z : Int, z = (cc : Int) := ⟨_, rfl⟩
    rw [← hccz] at cQ
    have HCZ := Lib.hid hccz
    have HM9 := Lib.hid hM9
    have HR9 := Lib.hid hR9
    have HB9 := Lib.hid hB9
    have HV9 := Lib.hid hv9
    have x0 := hM9.cell 0
    have x1 := hM9.cell 1
    have x2 := hM9.cell 2
    have x3 := hM9.cell 3
    have x4 := hM9.cell 4
    have x5 := hM9.cell 5
    simp only [List.getElem?_toArray, List.getElem?_cons_zero, List.getElem?_cons_succ] at x0 x1 x2 x3 x4 x5
    have u0 := hM9.fr 0
    have u1 := hM9.fr 1
    have u2 := hM9.fr 2
    have u3 := hM9.fr 3
    have u4 := hM9.fr 4
    have u5 := hM9.fr 5
    clear hM9 hR9 hB9 hv9 hV hcc hccz hXv HXV hbw hb6 S3 HB3 HSB HM8 HR8 HB8 HV8 k1 k2 k3
    go_wp2_with fail
    refine cQ.mono ?_
    rintro e w10 ⟨rfl, b10⟩
    have HM10 := Lib.hid (HM9.out.more b10)
    have HR10 := Lib.hid (HR9.out.more b10)
    have HB10 := Lib.hid (HB9.out.trans (b10.mono HB9.out.size))
    have HV10 := Lib.hid (nrow_more HV9.out b10)
    clear b10 cQ HM9 HR9 HB9 HV9 x0 x1 x2 x3 x4 x5 u0 u1 u2 u3 u4 u5
    by_cases hc0 : ccz = 0
    case neg =>
      have hn0 : ¬ cc = 0 := by have := HCZ.out; omega
      have hXv := HXC.out
      rw [if_neg hn0] at hXv
      have HXV := Lib.hid hXv
      have hM6 := HR10.out
      have r0 := hM6.cell 0
      have r1 := hM6.cell 1
      have r2 := hM6.cell 2
      have r3 := hM6.cell 3
      have r4 := hM6.cell 4
      have r5 := hM6.cell 5
      simp only [List.getElem?_toArray, List.getElem?_cons_zero, List.getElem?_cons_succ] at r0 r1 r2 r3 r4 r5
      have t0 := hM6.fr 0
      have t1 := hM6.fr 1
      have t2 := hM6.fr 2
      have t3 := hM6.fr 3
      have t4 := hM6.fr 4
      have t5 := hM6.fr 5
      clear hM6 hXv
      have HF := Lib.hid (mq_belowset6 HB10.out (show w.heap.size ≤ b + 1 by have := HBW.out; omega) (.slice none 0 0) (.string ⟨#[]⟩) (.string ⟨#[]⟩) (.string ⟨#[]⟩) (.int .i64 0) (.slice none 0 0))
      go_wp2
      exact bodyPost_ret (v := .tuple #[.agg #[.slice none 0 0, .string ⟨#[]⟩, .string ⟨#[]⟩, .string ⟨#[]⟩, .int .i64 0, .slice none 0 0], .int .i64 ccz]) (by simp [results, Tryz.results15, go_sem, mset_same, r0, r1, r2, r3, r4, r5]) rfl ⟨fcZ, by rw [HXV.out, HCZ.out]; rfl, fun h => absurd (HXV.out.symm.trans h) hn0, HF.out⟩
    case pos =>
      subst hc0
      have hn0 : cc = 0 := by have := HCZ.out; omega
      subst hn0
      have hXv := HXC.out
      rw [if_pos rfl] at hXv
      have HXV := Lib.hid hXv
      clear hXv HXC HCZ
      have cE := nz_eachE f.ents q d w10 OkT okT_mono (fun x y => y = entN x) entX w10.heap.size [] (HE.out.below HB10.out) rfl (by have := HL7.out; omega) (fun x v hx hv M wx hb hM => by
          subst hv
          have hxs := HZ.out.1.ents x hx
          exact (nz_Entry x wx (by omega) (by omega) (by omega) (by omega) (mu_below HT.out.1 (HB10.out.trans (hb.mono HB10.out.size)))).mono fun e w' ⟨he, hb'⟩ => ⟨nrmE x, he, fun h0 => ⟨by unfold nrmE; rw [if_pos h0], trivial⟩, hb'⟩) entsX rfl (fun _ _ => rfl) (fun j hj => by cases hj)
      obtain ⟨ee, hee⟩ : ∃ n, entsX f.ents = n := ⟨_, rfl⟩
      rw [hee] at cE
      have hXv := HXV.out
      rw [hee] at hXv
      have HXE := Lib.hid hXv
      obtain ⟨eez, heez⟩ : ∃ z : Int, z = (ee : Int) := ⟨_, rfl⟩
      rw [← heez] at cE
      have HEZ := Lib.hid heez
      have hM10 := HM10.out
      have x0 := hM10.cell 0
      have x1 := hM10.cell 1
      have x2 := hM10.cell 2
      have x3 := hM10.cell 3
      have x4 := hM10.cell 4
      have x5 := hM10.cell 5
      simp only [List.getElem?_toArray, List.getElem?_cons_zero, List.getElem?_cons_succ] at x0 x1 x2 x3 x4 x5
      have u0 := hM10.fr 0
      have u1 := hM10.fr 1
      have u2 := hM10.fr 2
      have u3 := hM10.fr 3
      have u4 := hM10.fr 4
      have u5 := hM10.fr 5
      clear hM10 hee heez hXv HXV
      go_wp2_with fail
      refine cE.mono ?_
      rintro e w11 ⟨v11, rfl, hok, -, b11⟩
      have HM11 := Lib.hid (HM10.out.more b11)
      have HR11 := Lib.hid (HR10.out.more b11)
      have HB11 := Lib.hid (HB10.out.trans (b11.mono HB10.out.size))
      have HV11 := Lib.hid (nrow_more HV10.out b11)
      have HOK := Lib.hid hok
      clear b11 cE hok HM10 HR10 HB10 HV10 x0 x1 x2 x3 x4 x5 u0 u1 u2 u3 u4 u5
      by_cases hc0 : eez = 0
      case neg =>
        have hn0 : ¬ ee = 0 := by have := HEZ.out; omega
        have hM6 := HR11.out
        have r0 := hM6.cell 0
        have r1 := hM6.cell 1
        have r2 := hM6.cell 2
        have r3 := hM6.cell 3
        have r4 := hM6.cell 4
        have r5 := hM6.cell 5
        simp only [List.getElem?_toArray, List.getElem?_cons_zero, List.getElem?_cons_succ] at r0 r1 r2 r3 r4 r5
        have t0 := hM6.fr 0
        have t1 := hM6.fr 1
        have t2 := hM6.fr 2
        have t3 := hM6.fr 3
        have t4 := hM6.fr 4
        have t5 := hM6.fr 5
        clear hM6
        have HF := Lib.hid (mq_belowset6 HB11.out (show w.heap.size ≤ b + 1 by have := HBW.out; omega) (.slice none 0 0) (.string ⟨#[]⟩) (.string ⟨#[]⟩) (.string ⟨#[]⟩) (.int .i64 0) (.slice none 0 0))
        go_wp2
        exact bodyPost_ret (v := .tuple #[.agg #[.slice none 0 0, .string ⟨#[]⟩, .string ⟨#[]⟩, .string ⟨#[]⟩, .int .i64 0, .slice none 0 0], .int .i64 eez]) (by simp [results, Tryz.results15, go_sem, mset_same, r0, r1, r2, r3, r4, r5]) rfl ⟨fcZ, by rw [HXE.out, HEZ.out]; rfl, fun h => absurd (HXE.out.symm.trans h) hn0, HF.out⟩
      case pos =>
        subst hc0
        have hn0 : ee = 0 := by have := HEZ.out; omega
        subst hn0
        obtain ⟨ys, hP, hO⟩ := HOK.out rfl
        obtain ⟨p11, c11, rfl⟩ := jrow_val hO.row
        have hys : ys = f.ents.map entN := by
          have := hP.map (f := entN) (g := id) (fun x y h => h)
          rwa [List.map_id] at this
        have hyl : ys.length = f.ents.length := hP.len
        have cB := nz_combineEntries ys p11 c11 w11 (ents_rw (RwAt.of_owns entCells_len hO.row rfl)) (by have := HL7.out; omega) (fun y hy => by
            rw [hys] at hy
            obtain ⟨x, hx, rfl⟩ := List.mem_map.1 hy
            have hxs := HZ.out.1.ents x hx
            exact entN_eok ⟨hxs, HEU.out x hx⟩) (TabW_below HT.out HB11.out)
        have HYS := Lib.hid hys
        have hM11 := HM11.out
        have x0 := hM11.cell 0
        have x1 := hM11.cell 1
        have x2 := hM11.cell 2
        have x3 := hM11.cell 3
        have x4 := hM11.cell 4
        have x5 := hM11.cell 5
        simp only [List.getElem?_toArray, List.getElem?_cons_zero, List.getElem?_cons_succ] at x0 x1 x2 x3 x4 x5
        have u0 := hM11.fr 0
        have u1 := hM11.fr 1
        have u2 := hM11.fr 2
        have u3 := hM11.fr 3
        have u4 := hM11.fr 4
        have u5 := hM11.fr 5
        clear hM11 hP hO hys hyl HOK
        go_wp2_with fail
        refine cB.mono ?_
        rintro e w12 ⟨v12, rfl, hN12, b12⟩
        obtain ⟨ez, hez⟩ : ∃ l, addsE [] ys = l := ⟨_, rfl⟩
        rw [hez] at hN12
        obtain ⟨p12, c12, rfl, hcap12, hx12⟩ := id hN12
        obtain ⟨W13, hW13⟩ : ∃ W13, W13 = w12.setCell ⟨b, 5, none⟩ (.slice p12 ez.length c12) := ⟨_, rfl⟩
        have hz6 := HZ6.out
        have hbw : w.heap.size ≤ b := by have := HBW.out; omega
        have hM12 := HM11.out.more b12
        have hb11 : b + 1 < w11.heap.size := HR11.out.lt
        have hM13 : MBlk W13 b #[.slice p7 f.path.length c7, .string t1, .string t2, .string t3, .int .i64 f.upd, .slice p12 ez.length c12] 35 := by rw [hW13]; exact nz_set1 hM12 5 _
        have hR13 : MBlk W13 (b + 1) #[.slice none 0 0, .string ⟨#[]⟩, .string ⟨#[]⟩, .string ⟨#[]⟩, .int .i64 0, .slice none 0 0] 35 := by rw [hW13]; exact nz_far1 (HR11.out.more b12) (by omega) 5 _
        have hB12 := HB11.out.trans (b12.mono HB11.out.size)
        have hB13 : Below w.heap.size w W13 := by rw [hW13]; exact hB12.setCell (p := ⟨b, 5, none⟩) hbw _
        have hv13 : W13.ownsRow w6.heap.size 9 1 (.slice p7 f.path.length c7) f.path.length (rowC strC (f.path.map colB)) := by rw [hW13]; exact nrow_set (nrow_more HV11.out b12) (by omega) 5 _
        have hN13 : NewRow 5 entCells w11.heap.size (.slice p12 ez.length c12) ez W13 := by rw [hW13]; exact nz_newset hN12 (by omega) 5 _
        have z0 := hM12.cell 0
        have z1 := hM12.cell 1
        have z2 := hM12.cell 2
        have z3 := hM12.cell 3
        have z4 := hM12.cell 4
        have z5 := hM12.cell 5
        simp only [List.getElem?_toArray, List.getElem?_cons_zero, List.getElem?_cons_succ] at z0 z1 z2 z3 z4 z5
        have v0 := hM12.fr 0
        have v1 := hM12.fr 1
        have v2 := hM12.fr 2
        have v3 := hM12.fr 3
        have v4 := hM12.fr 4
        have v5 := hM12.fr 5
        have r0 := hR13.cell 0
        have r1 := hR13.cell 1
        have r2 := hR13.cell 2
        have r3 := hR13.cell 3
        have r4 := hR13.cell 4
        have r5 := hR13.cell 5
        simp only [List.getElem?_toArray, List.getElem?_cons_zero, List.getElem?_cons_succ] at r0 r1 r2 r3 r4 r5
        have g0 := hR13.fr 0
        have g1 := hR13.fr 1
        have g2 := hR13.fr 2
        have g3 := hR13.fr 3
        have g4 := hR13.fr 4
        have g5 := hR13.fr 5
        have x0 := hM13.cell 0
        have x1 := hM13.cell 1
        have x2 := hM13.cell 2
        have x3 := hM13.cell 3
        have x4 := hM13.cell 4
        have x5 := hM13.cell 5
        simp only [List.getElem?_toArray, List.getElem?_cons_zero, List.getElem?_cons_succ] at x0 x1 x2 x3 x4 x5
        have u0 := hM13.fr 0
        have u1 := hM13.fr 1
        have u2 := hM13.fr 2
        have u3 := hM13.fr 3
        have u4 := hM13.fr 4
        have u5 := hM13.fr 5
        have hfeed : feedN f = ⟨f.path.map colB, t1, t2, t3, f.upd, ez⟩ := by
          unfold feedN
          rw [← hez, HYS.out, HT1.out, HT2.out, HT3.out]
        have hF : Hid (∀ W' : World, W' = (((((W13.setCell ⟨b + 1, 0, none⟩ (.slice p7 f.path.length c7)).setCell ⟨b + 1, 1, none⟩ (.string t1)).setCell ⟨b + 1, 2, none⟩ (.string t2)).setCell ⟨b + 1, 3, none⟩ (.string t3)).setCell ⟨b + 1, 4, none⟩ (.int .i64 f.upd)).setCell ⟨b + 1, 5, none⟩ (.slice p12 ez.length c12) → fcOk (holes W' M) ⟨⟨f.path.map colB, t1, t2, t3, f.upd, ez⟩, p7, c7, p12, c12⟩ ∧ Below w.heap.size w W') := Lib.hid (fun W' hW' => by
          have hbv : b + 1 < w6.heap.size := by omega
          have hv14 := nrow_set (nrow_set (nrow_set (nrow_set (nrow_set (nrow_set hv13 hbv 0 (.slice p7 f.path.length c7)) hbv 1 (.string t1)) hbv 2 (.string t2)) hbv 3 (.string t3)) hbv 4 (.int .i64 f.upd)) hbv 5 (.slice p12 ez.length c12)
          have hN14 := nz_newset (nz_newset (nz_newset (nz_newset (nz_newset (nz_newset hN13 hb11 0 (.slice p7 f.path.length c7)) hb11 1 (.string t1)) hb11 2 (.string t2)) hb11 3 (.string t3)) hb11 4 (.int .i64 f.upd)) hb11 5 (.slice p12 ez.length c12)
          rw [← hW'] at hv14 hN14
          have hMw : ∀ j ∈ M, j < w6.heap.size := fun j hj => Nat.lt_of_lt_of_le (HM.out j hj) HB6.out.size
          have hMw2 : ∀ j ∈ M, j < w11.heap.size := fun j hj => Nat.lt_of_lt_of_le (HM.out j hj) HB11.out.size
          refine ⟨⟨?_, hN14.far hMw2⟩, ?_⟩
          · have hlen : f.path.length = (f.path.map colB).length := by rw [List.length_map]
            rw [hlen] at hv14
            exact (NewRow.owned strC_len hv14).far hMw
          · rw [hW']
            exact mq_belowset6 hB13 (by omega) _ _ _ _ _ _)
        have HXE2 := HXE.out
        have HXZ := Lib.hid HXE2
        have HFD := Lib.hid hfeed
        clear b12 cB hN12 hcap12 hx12 hz6 hbw hM12 hM13 hR13 hB12 hB13 hv13 hN13 hfeed HXE2 hez
        go_upto_region 13 with fail
        simp only [← hW13]
        clear hW13 z0 z1 z2 z3 z4 z5 v0 v1 v2 v3 v4 v5
        go_wp2
        exact bodyPost_ret (v := .tuple #[.agg #[.slice p7 f.path.length c7, .string t1, .string t2, .string t3, .int .i64 f.upd, .slice p12 ez.length c12], .int .i64 0]) (by simp [results, Tryz.results15, go_sem, mset_same, r0, r1, r2, r3, r4, r5]) rfl ⟨⟨⟨f.path.map colB, t1, t2, t3, f.upd, ez⟩, p7, c7, p12, c12⟩, by rw [HXZ.out, List.length_map]; rfl, fun _ => ⟨HFD.out.symm, (hF.out _ rfl).1⟩, (hF.out _ rfl).2⟩
end Go.Proofs.YtbfalppeifkjdaaGreatDoor
end
