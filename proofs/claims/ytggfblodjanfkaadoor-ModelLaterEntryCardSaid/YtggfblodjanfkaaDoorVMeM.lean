/- Packed from the texts MeM. -/
import Derived.Test.YtggfblodjanfkaaDoorVMeL
import Derived.Test.YtggfblodjanfkaaDoorVk6
section
namespace Go.Proofs.YtggfblodjanfkaaDoor
open Go.RowKit
def eSum (x : EntD) : Nat := x.id.size + x.title.size + x.link.size + x.content.size
def ESmE (x : EntD) : Prop := eSum x ≤ 3000 ∧ -9223372036854775808 ≤ x.upd ∧ x.upd ≤ 9223372036854775807
theorem ltE_small {x y : EntD} (hx : ESmE x) (hy : ESmE y) : ESmE (ltE x y) := by
  unfold ltE
  split
  · exact hy
  · exact hx
theorem mc_later {x y : EntD} (hx : ESmE x) (hy : ESmE y) (w : World) (hT : TabW w) : Calls Tryd.prog 21 #[EntV x, EntV y] w fun e w' => e = .returned (EntV (ltE x y)) ∧ Below w.heap.size w w' := by
  obtain ⟨h1, h2, h3⟩ := hx
  obtain ⟨g1, g2, g3⟩ := hy
  unfold eSum at h1 g1
  exact mc_LaterEntry x y w (fun w2 hb => mc_EntryKey x w2 (by omega) h2 h3 (TabW_below hT hb)) (fun w2 hb => mc_EntryKey y w2 (by omega) g2 g3 (TabW_below hT hb))
theorem mref_later {x y : EntD} (hx : ESmE x) (hy : ESmE y) (w : World) : Calls Tryd.prog 22 #[EntV x, EntV y] w fun e w' => e = .returned (EntV (ltE x y)) ∧ Below w.heap.size w w' := by
  obtain ⟨h1, h2, h3⟩ := hx
  obtain ⟨g1, g2, g3⟩ := hy
  unfold eSum at h1 g1
  exact mref_LaterEntry x y w (fun w2 => mref_EntryKey x w2 (by omega) (by omega) (by omega) (by omega) h2 h3) (fun w2 => mref_EntryKey y w2 (by omega) (by omega) (by omega) (by omega) g2 g3)
theorem law_validS {x : EntD} (hx : ESmE x) (w : World) : Calls Tryd.prog 23 #[EntV x] w fun e w' => e = .returned (.bool (valE x)) ∧ Below w.heap.size w w' := by
  obtain ⟨h1, -, -⟩ := hx
  unfold eSum at h1
  exact law_valid x w (by omega) (by omega) (by omega) (by omega)
theorem lexI_zero {x y : Int} (h : lexI x y = 0) : y = 0 := by
  unfold lexI at h
  split at h
  · exact h
  · rename_i hn
    exact absurd h hn
theorem ltE_self (a : EntD) : ltE a a = a := by rw [ltE_mx, mxB_self]
theorem ltE_assoc (a b c : EntD) : ltE (ltE a b) c = ltE a (ltE b c) := by
  rw [ltE_mx, ltE_mx, ltE_mx, ltE_mx]
  exact mxB_assoc cmpK_ok a b c
theorem ltE_comm {a b : EntD} (ha : ESmE a) (hb : ESmE b) (h : valE a = true) : ltE b a = ltE a b := by
  rw [ltE_mx, ltE_mx]
  refine mxB_comm cmpK_ok a b fun h0 => ?_
  have hk : ekL a = ekL b := (cmpL_zero _ _).1 (lexI_zero h0)
  refine ek_inj a b ha.2.1 ha.2.2 hb.2.1 hb.2.2 ?_ hk
  unfold ekL
  rw [if_pos (show vaS [a.id, a.title, a.link, a.content] = true by
    unfold valE at h
    unfold vaS
    rw [List.all_cons, List.all_cons, List.all_cons, List.all_cons, List.all_nil, Bool.and_true]
    exact h)]
  exact List.cons_ne_nil _ _
theorem ents_three (w : World) (a b c : EntD) : EntsAt (w.alloc (.cells #[.string a.id, .string a.title, .string a.link, .string a.content, .int .i64 a.upd, .string b.id, .string b.title, .string b.link, .string b.content, .int .i64 b.upd, .string c.id, .string c.title, .string c.link, .string c.content, .int .i64 c.upd] 29)) (some ⟨w.heap.size, 0, none⟩) [a, b, c] := by
  have h := heap_alloc_new w (.cells #[.string a.id, .string a.title, .string a.link, .string a.content, .int .i64 a.upd, .string b.id, .string b.title, .string b.link, .string b.content, .int .i64 b.upd, .string c.id, .string c.title, .string c.link, .string c.content, .int .i64 c.upd] 29)
  intro i hi
  match i, hi with
  | 0, _ => exact ⟨_, rfl, cell_of_row _ _ 0 _ _ _ h, cell_of_row _ _ 1 _ _ _ h, cell_of_row _ _ 2 _ _ _ h, cell_of_row _ _ 3 _ _ _ h, cell_of_row _ _ 4 _ _ _ h⟩
  | 1, _ => exact ⟨_, rfl, cell_of_row _ _ 5 _ _ _ h, cell_of_row _ _ 6 _ _ _ h, cell_of_row _ _ 7 _ _ _ h, cell_of_row _ _ 8 _ _ _ h, cell_of_row _ _ 9 _ _ _ h⟩
  | 2, _ => exact ⟨_, rfl, cell_of_row _ _ 10 _ _ _ h, cell_of_row _ _ 11 _ _ _ h, cell_of_row _ _ 12 _ _ _ h, cell_of_row _ _ 13 _ _ _ h, cell_of_row _ _ 14 _ _ _ h⟩
set_option maxRecDepth 100000 in
set_option maxHeartbeats 64000000 in
theorem walk_LaterEntry (a b c : EntD) (w : World) (hWa : EWf a) (hWb : EWf b) (hWc : EWf c) (hT : TabW w) : Calls Tryd.prog 6 #[EntV a, EntV b, EntV c] w fun e' w' => e' = .returned (.bool true) ∧ Below w.heap.size w w' := by
  obtain ⟨W0, hW0⟩ : ∃ W0, W0 = (((w.alloc (.cells #[.string a.id, .string a.title, .string a.link, .string a.content, .int .i64 a.upd] 29)).alloc (.cells #[.string b.id, .string b.title, .string b.link, .string b.content, .int .i64 b.upd] 29)).alloc (.cells #[.string c.id, .string c.title, .string c.link, .string c.content, .int .i64 c.upd] 29)) := ⟨_, rfl⟩
  have hB0 : Below w.heap.size w W0 := by rw [hW0]; exact ((((Below.refl _ _).alloc (by simp) _).alloc (by simp; try omega) _).alloc (by simp; try omega) _)
  have hX0 : EBox W0 w.heap.size a := by
    have h := EBox.new w a
    rw [hW0]
    exact ((h).below ((Below.refl _ _).alloc (Nat.le_refl _) _)).below ((Below.refl _ _).alloc (Nat.le_refl _) _)
  have hX1 : EBox W0 (w.heap.size + 1) b := by
    have h := EBox.new (w.alloc (.cells #[.string a.id, .string a.title, .string a.link, .string a.content, .int .i64 a.upd] 29)) b
    rw [World.size_alloc] at h
    rw [hW0]
    exact (h).below ((Below.refl _ _).alloc (Nat.le_refl _) _)
  have hX2 : EBox W0 (w.heap.size + 2) c := by
    have h := EBox.new ((w.alloc (.cells #[.string a.id, .string a.title, .string a.link, .string a.content, .int .i64 a.upd] 29)).alloc (.cells #[.string b.id, .string b.title, .string b.link, .string b.content, .int .i64 b.upd] 29)) c
    rw [World.size_alloc, World.size_alloc] at h
    rw [hW0]
    exact h
  have hS : EBox W0 w.heap.size a ∧ EBox W0 (w.heap.size + 1) b ∧ EBox W0 (w.heap.size + 2) c ∧ True := ⟨hX0, hX1, hX2, trivial⟩
  have HSB := Lib.hid (fun (u1 u2 : World) (hb : Below u1.heap.size u1 u2) (h : EBox u1 w.heap.size a ∧ EBox u1 (w.heap.size + 1) b ∧ EBox u1 (w.heap.size + 2) c ∧ True) => (show EBox u2 w.heap.size a ∧ EBox u2 (w.heap.size + 1) b ∧ EBox u2 (w.heap.size + 2) c ∧ True from ⟨h.1.below hb, h.2.1.below hb, h.2.2.1.below hb, trivial⟩))
  clear hX0 hX1 hX2
  have cA := fun wx (hb : Below w.heap.size w wx) => mc_alive wx (TabW_below hT hb)
  have qcA := Lib.hid cA
  have qT := Lib.hid hT
  have qW := Lib.hid (show ∀ x ∈ [a, b, c], EWf x from fun x hx => by
    simp only [List.mem_cons, List.not_mem_nil, or_false] at hx
    rcases hx with rfl | rfl | rfl
    · exact hWa
    · exact hWb
    · exact hWc)
  have HS := Lib.hid hS
  have HB := Lib.hid hB0
  obtain ⟨W4, hW4⟩ : ∃ W4, W4 = W0.alloc (.cells #[.string a.id, .string a.title, .string a.link, .string a.content, .int .i64 a.upd, .string b.id, .string b.title, .string b.link, .string b.content, .int .i64 b.upd, .string c.id, .string c.title, .string c.link, .string c.content, .int .i64 c.upd] 29) := ⟨_, rfl⟩
  have hb4 : Below W0.heap.size W0 W4 := by rw [hW4]; exact (Below.refl _ _).alloc (Nat.le_refl _) _
  have hE4 : EntsAt W4 (some ⟨W0.heap.size, 0, none⟩) [a, b, c] := by rw [hW4]; exact ents_three W0 a b c
  replace HS := Lib.hid (HSB.out _ _ hb4 HS.out)
  replace HB := Lib.hid (HB.out.trans (hb4.mono HB.out.size))
  have HE := Lib.hid hE4
  obtain ⟨⟨f00, f01, f02, f03, f04⟩, ⟨f10, f11, f12, f13, f14⟩, ⟨f20, f21, f22, f23, f24⟩, -⟩ := id hS
  unfold EntV
  go_enter Tryd.func6, Tryd.ntmps6
  go_upto_region 1 with fail
  simp only [← hW0]
  clear hW0
  go_upto_region 2 with fail
  simp only [← hW4]
  clear hW4 hb4 hE4 hS hB0 cA hT hWa hWb hWc f00 f01 f02 f03 f04 f10 f11 f12 f13 f14 f20 f21 f22 f23 f24
  go_wp2
  generalize W0.heap.size = bs at *
  go_loopw [15] (fun q wr => ∃ i : Nat, i ≤ 3 ∧ q = .int .i64 (i : Int) ∧ (∀ j (hj : j < [a, b, c].length), j < i → eSum [a, b, c][j] ≤ 3000) ∧ Below W4.heap.size W4 wr) (fun q _ => 3 - (RowKit.intOf q).toNat)
  case atStart => exact ⟨0, by omega, rfl, fun j _ h => absurd h (Nat.not_lt_zero _), Below.refl _ _⟩
  case round =>
    obtain ⟨i, hi, rfl, hsm, hbr⟩ := hrel
    by_cases hlt : i < 3
    · have hiz : (i : Int) < 3 := by omega
      have hi2 : i < [a, b, c].length := hlt
      obtain ⟨ad, had, a0, a1, a2, a3, a4⟩ := HE.out.below hbr i hi2
      cases had
      obtain ⟨x, hx⟩ : ∃ x, [a, b, c][i] = x := ⟨_, rfl⟩
      have hxw := qW.out x (by rw [← hx]; exact List.getElem_mem _)
      rw [hx] at a0 a1 a2 a3 a4
      obtain ⟨aa, haa⟩ : ∃ aa, (⟨bs, 0, none⟩ : Addr).add (i * 5) = aa := ⟨_, rfl⟩
      rw [haa] at a0 a1 a2 a3 a4
      simp only [Addr.add, Nat.reduceEqDiff, ↓reduceIte] at a1 a2 a3 a4
      have hxx : ({ block := bs, off := 0 + i * 5 } : Addr) = aa := by rw [← haa]; unfold Addr.add; split <;> simp_all
      have hxx2 : ({ block := bs, off := i * 5 } : Addr) = aa := by rw [← hxx, Nat.zero_add]
      obtain ⟨W5, hW5⟩ : ∃ W5, W5 = wr.alloc (.cells #[.string x.id, .string x.title, .string x.link, .string x.content, .int .i64 x.upd] 29) := ⟨_, rfl⟩
      have hb5 : Below wr.heap.size wr W5 := by rw [hW5]; exact (Below.refl _ _).alloc (Nat.le_refl _) _
      have hX5 : EBox W5 wr.heap.size x := by rw [hW5]; exact EBox.new wr x
      have hbw := hbr.trans (hb5.mono hbr.size)
      have HBW := Lib.hid hbw
      have cA := qcA.out W5 (HB.out.trans (hbw.mono HB.out.size))
      have s1 := hxw.id
      have s2 := hxw.title
      have s3 := hxw.link
      have s4 := hxw.content
      have rx2 : IntKind.i64.wrap ((x.id.size : Int) + (x.title.size : Int)) = (x.id.size : Int) + (x.title.size : Int) := mwrap (by omega) (by omega)
      have rx3 : IntKind.i64.wrap ((x.id.size : Int) + (x.title.size : Int) + (x.link.size : Int)) = (x.id.size : Int) + (x.title.size : Int) + (x.link.size : Int) := mwrap (by omega) (by omega)
      have rx4 : IntKind.i64.wrap ((x.id.size : Int) + (x.title.size : Int) + (x.link.size : Int) + (x.content.size : Int)) = (x.id.size : Int) + (x.title.size : Int) + (x.link.size : Int) + (x.content.size : Int) := mwrap (by omega) (by omega)
      obtain ⟨x0, x1, x2, x3, x4⟩ := hX5
      have HSMx := Lib.hid hsm
      have HX := Lib.hid hx
      clear hx hsm hxw hbw hb5 haa hbr
      by_cases hbig : 3000 < eSum x
      · have hbz : 3000 < (x.id.size : Int) + (x.title.size : Int) + (x.link.size : Int) + (x.content.size : Int) := by unfold eSum at hbig; omega
        clear hbig
        go_upto_region 4 with fail
        simp only [← hW5]
        clear hW5 a0 a1 a2 a3 a4
        go_wp2_with fail
        refine cA.mono ?_
        rintro e w9 ⟨rfl, b9⟩
        have HB9 := Lib.hid ((HB.out.trans (HBW.out.mono HB.out.size)).trans (b9.mono (HB.out.trans (HBW.out.mono HB.out.size)).size))
        clear b9 cA x0 x1 x2 x3 x4
        go_wp2
        go_ret
        exact ⟨rfl, HB9.out⟩
      · have hbz : ¬ 3000 < (x.id.size : Int) + (x.title.size : Int) + (x.link.size : Int) + (x.content.size : Int) := by unfold eSum at hbig; omega
        have HBG := Lib.hid hbig
        clear hbig cA
        go_upto_region 4 with fail
        simp only [← hW5]
        clear hW5 a0 a1 a2 a3 a4
        go_wp2
        go_roundw
        case rel =>
          refine ⟨i + 1, by omega, by go_num, fun j hj hji => ?_, HBW.out⟩
          rcases Nat.lt_or_ge j i with h | h
          · exact HSMx.out j hj h
          · obtain rfl : j = i := by omega
            rw [HX.out]
            have := HBG.out
            omega
        case measure => simp [RowKit.intOf]; omega
    · obtain rfl : i = 3 := by omega
      have hiz : ¬ (3 : Int) < 3 := by omega
      obtain ⟨wo, rfl⟩ : ∃ wo, wo = wr := ⟨_, rfl⟩
      have hsa : ESmE a := ⟨hsm 0 (by simp) (by decide), (qW.out a (by simp)).u0, (qW.out a (by simp)).u1⟩
      have hsb : ESmE b := ⟨hsm 1 (by simp) (by decide), (qW.out b (by simp)).u0, (qW.out b (by simp)).u1⟩
      have hsc : ESmE c := ⟨hsm 2 (by simp) (by decide), (qW.out c (by simp)).u0, (qW.out c (by simp)).u1⟩
      replace HS := Lib.hid (HSB.out _ _ hbr HS.out)
      replace HB := Lib.hid (HB.out.trans (hbr.mono HB.out.size))
      clear hsm hbr HE qW
      obtain ⟨xab, hxab⟩ : ∃ z, ltE a b = z := ⟨_, rfl⟩
      obtain ⟨xbc, hxbc⟩ : ∃ z, ltE b c = z := ⟨_, rfl⟩
      obtain ⟨xr, hxr⟩ : ∃ z, ltE xab c = z := ⟨_, rfl⟩
      have hsab : ESmE xab := by rw [← hxab]; exact ltE_small hsa hsb
      have hsbc : ESmE xbc := by rw [← hxbc]; exact ltE_small hsb hsc
      have hxr2 : ltE a xbc = xr := by rw [← hxr, ← hxab, ← hxbc, ltE_assoc]
      have k1 := fun wx (hb : Below w.heap.size w wx) => mc_later hsa hsb wx (TabW_below qT.out hb)
      have k2 := fun wx (hb : Below w.heap.size w wx) => mc_later hsa hsa wx (TabW_below qT.out hb)
      have k3 := fun wx (hb : Below w.heap.size w wx) => mc_later hsab hsc wx (TabW_below qT.out hb)
      have k4 := fun wx (hb : Below w.heap.size w wx) => mc_later hsb hsc wx (TabW_below qT.out hb)
      have k5 := fun wx (hb : Below w.heap.size w wx) => mc_later hsa hsbc wx (TabW_below qT.out hb)
      have k6 := fun wx (hb : Below w.heap.size w wx) => mc_later hsb hsa wx (TabW_below qT.out hb)
      have k7 := fun wx => mref_later hsa hsb wx
      have k8 := fun wx => law_validS hsa wx
      have k9 := fun wx => law_validS hsb wx
      have hcomm := fun h => ltE_comm hsa hsb h
      rw [hxab] at k1 k7 hcomm
      rw [ltE_self] at k2
      rw [hxr] at k3
      rw [hxbc] at k4
      rw [hxr2] at k5
      have n1 := fun wx => ment_neq xab xab wx
      have n2 := fun wx => ment_neq a a wx
      have n3 := fun wx => ment_neq xr xr wx
      have n4 := fun wx => ment_eql xab xab wx
      rw [(eqE_iff _ _).2 rfl, Bool.not_true] at n1 n2 n3
      rw [(eqE_iff _ _).2 rfl] at n4
      unfold EntV at k1 k2 k3 k4 k5 k6 k7 k8 k9 n1 n2 n3 n4
      have qk1 := Lib.hid k1
      have qk2 := Lib.hid k2
      have qk3 := Lib.hid k3
      have qk4 := Lib.hid k4
      have qk5 := Lib.hid k5
      have qk6 := Lib.hid k6
      have qk7 := Lib.hid k7
      have qk8 := Lib.hid k8
      have qk9 := Lib.hid k9
      have qco := Lib.hid hcomm
      clear k1 k2 k3 k4 k5 k6 k7 k8 k9 hcomm hxab hxbc hxr hxr2 hsa hsb hsc hsab hsbc
      obtain ⟨⟨f00, f01, f02, f03, f04⟩, ⟨f10, f11, f12, f13, f14⟩, ⟨f20, f21, f22, f23, f24⟩, -⟩ := id HS.out
      go_wp2_with fail
      refine (qk1.out _ HB.out).mono ?_
      rintro e1 w6 ⟨rfl, b6⟩
      obtain ⟨W7, hW7⟩ : ∃ W7, W7 = w6.alloc (.cells #[.string xab.id, .string xab.title, .string xab.link, .string xab.content, .int .i64 xab.upd] 29) := ⟨_, rfl⟩
      have b7 : Below w6.heap.size w6 W7 := by rw [hW7]; exact (Below.refl _ _).alloc (Nat.le_refl _) _
      have hX7 : EBox W7 w6.heap.size xab := by rw [hW7]; exact EBox.new w6 xab
      have b67 := b6.trans (b7.mono b6.size)
      replace HB := Lib.hid (HB.out.trans (b67.mono HB.out.size))
      have hS7 := HSB.out _ _ b67 HS.out
      clear f00 f01 f02 f03 f04 f10 f11 f12 f13 f14 f20 f21 f22 f23 f24 b6 b7 b67 HS
      go_upto_region 8 with fail
      simp only [← hW7]
      clear hW7
      generalize w6.heap.size = bx at *
      have HS := Lib.hid (show (EBox W7 bx xab) ∧ EBox W7 w.heap.size a ∧ EBox W7 (w.heap.size + 1) b ∧ EBox W7 (w.heap.size + 2) c ∧ True from ⟨hX7, hS7⟩)
      replace HSB := Lib.hid (fun (u1 u2 : World) (hb : Below u1.heap.size u1 u2) (h : (EBox u1 bx xab) ∧ EBox u1 w.heap.size a ∧ EBox u1 (w.heap.size + 1) b ∧ EBox u1 (w.heap.size + 2) c ∧ True) => (show (EBox u2 bx xab) ∧ EBox u2 w.heap.size a ∧ EBox u2 (w.heap.size + 1) b ∧ EBox u2 (w.heap.size + 2) c ∧ True from ⟨h.1.below hb, HSB.out u1 u2 hb h.2⟩))
      clear hX7 hS7
      obtain ⟨⟨g0, g1, g2, g3, g4⟩, ⟨⟨f00, f01, f02, f03, f04⟩, ⟨f10, f11, f12, f13, f14⟩, ⟨f20, f21, f22, f23, f24⟩, -⟩⟩ := id HS.out
      go_wp2
      have SD1 : (EBox W7.drew bx xab) ∧ EBox W7.drew w.heap.size a ∧ EBox W7.drew (w.heap.size + 1) b ∧ EBox W7.drew (w.heap.size + 2) c ∧ True := HS.out
      have HD1 := Lib.hid (show Below w.heap.size w W7.drew from HB.out.drew)
      clear HS HB
      clear g0 g1 g2 g3 g4 f00 f01 f02 f03 f04 f10 f11 f12 f13 f14 f20 f21 f22 f23 f24
      refine wp_region_late (S := fun w' => (EBox w' bx xab) ∧ EBox w' w.heap.size a ∧ EBox w' (w.heap.size + 1) b ∧ EBox w' (w.heap.size + 2) c ∧ True) (D := []) (by kernel_rfl) ?_
      refine anyL_take (i := 0) (oi := { dst := some 40, op := Go.Op.load 29 (Go.Operand.tmp 9), type := 29, pos := "law.go:113", after := #[], guard := none }) (v := ?_) rfl (by decide) (by kernel_rfl) (by kernel_rfl) (by kernel_rfl) (by kernel_rfl) (fun _ _ _ h => h) (Or.inl ⟨by rfl, ?_⟩) SD1 ?_
      rotate_left
      · intro wz hSz
        obtain ⟨⟨y0, y1, y2, y3, y4⟩, ⟨⟨z0, z1, z2, z3, z4⟩, ⟨z5, z6, z7, z8, z9⟩, ⟨z10, z11, z12, z13, z14⟩, -⟩⟩ := hSz
        go_simp
        (try with_reducible rfl)
      try simp only [Act.put, List.setIfInBounds_toArray, List.set_cons_zero, List.set_cons_succ]
      refine anyL_take (i := 1) (oi := { dst := some 41, op := Go.Op.load 29 (Go.Operand.tmp 3), type := 29, pos := "law.go:113", after := #[], guard := none }) (v := ?_) rfl (by decide) (by kernel_rfl) (by kernel_rfl) (by kernel_rfl) (by kernel_rfl) (fun _ _ _ h => h) (Or.inl ⟨by rfl, ?_⟩) SD1 ?_
      rotate_left
      · intro wz hSz
        obtain ⟨⟨y0, y1, y2, y3, y4⟩, ⟨⟨z0, z1, z2, z3, z4⟩, ⟨z5, z6, z7, z8, z9⟩, ⟨z10, z11, z12, z13, z14⟩, -⟩⟩ := hSz
        go_simp
        (try with_reducible rfl)
      try simp only [Act.put, List.setIfInBounds_toArray, List.set_cons_zero, List.set_cons_succ]
      refine anyL_take (i := 2) (oi := { dst := some 42, op := Go.Op.load 29 (Go.Operand.tmp 4), type := 29, pos := "law.go:113", after := #[], guard := none }) (v := ?_) rfl (by decide) (by kernel_rfl) (by kernel_rfl) (by kernel_rfl) (by kernel_rfl) (fun _ _ _ h => h) (Or.inl ⟨by rfl, ?_⟩) SD1 ?_
      rotate_left
      · intro wz hSz
        obtain ⟨⟨y0, y1, y2, y3, y4⟩, ⟨⟨z0, z1, z2, z3, z4⟩, ⟨z5, z6, z7, z8, z9⟩, ⟨z10, z11, z12, z13, z14⟩, -⟩⟩ := hSz
        go_simp
        (try with_reducible rfl)
      try simp only [Act.put, List.setIfInBounds_toArray, List.set_cons_zero, List.set_cons_succ]
      refine anyL_ready (rs := [3]) (by kernel_rfl) (by simp) ?_
      refine AllL.cons (o := { dst := some 43, op := Go.Op.call { callee := Go.Callee.value (Go.Operand.func 22), args := #[Go.Operand.tmp 41, Go.Operand.tmp 42], argTypes := #[29, 29] }, type := 29, pos := "law.go:113", after := #[{ on := 1, ground := Go.Ground.data }, { on := 2, ground := Go.Ground.data }], guard := none }) rfl (fun K' hK => ?_) AllL.nil
      rw [if_pos (by rfl)]
      go_simp
      go_at_call 22
      refine (qk7.out _).mono ?_
      rintro e2 w2 ⟨rfl, b2⟩
      have S2 := HSB.out _ _ b2 SD1
      have HB2 := Lib.hid (HD1.out.trans (b2.mono HD1.out.size))
      refine hK _ _ S2 ?_
      clear hK K' b2 SD1
      try simp only [Act.put, List.setIfInBounds_toArray, List.set_cons_zero, List.set_cons_succ]
      refine anyL_take (i := 4) (oi := { dst := some 44, op := Go.Op.binOp Go.BinOp.neq 29 (Go.Operand.tmp 40) (Go.Operand.tmp 43) 29, type := 4, pos := "law.go:113", after := #[{ on := 0, ground := Go.Ground.data }, { on := 3, ground := Go.Ground.data }], guard := none }) (v := ?_) rfl (by decide) (by kernel_rfl) (by kernel_rfl) (by kernel_rfl) (by kernel_rfl) (fun _ _ _ h => h) (Or.inl ⟨by rfl, ?_⟩) S2 ?_
      rotate_left
      · intro wz hSz
        skip
        go_simp
        (try with_reducible rfl)
      try simp only [Act.put, List.setIfInBounds_toArray, List.set_cons_zero, List.set_cons_succ]
      refine anyL_take (i := 5) (oi := { dst := some 45, op := Go.Op.move (Go.Operand.tmp 44), type := 4, pos := "law.go:113", after := #[{ on := 4, ground := Go.Ground.data }, { on := 3, ground := Go.Ground.chain }], guard := none }) (v := ?_) rfl (by decide) (by kernel_rfl) (by kernel_rfl) (by kernel_rfl) (by kernel_rfl) (fun _ _ _ h => h) (Or.inl ⟨by rfl, ?_⟩) S2 ?_
      rotate_left
      · intro wz hSz
        skip
        go_simp
        (try with_reducible rfl)
      try simp only [Act.put, List.setIfInBounds_toArray, List.set_cons_zero, List.set_cons_succ]
      refine anyL_take (i := 6) (oi := { dst := some 46, op := Go.Op.load 29 (Go.Operand.tmp 3), type := 29, pos := "law.go:113", after := #[{ on := 5, ground := Go.Ground.guard }], guard := some (5, false) }) (v := ?_) rfl (by decide) (by kernel_rfl) (by kernel_rfl) (by kernel_rfl) (by kernel_rfl) (fun _ _ _ h => h) (Or.inl ⟨by rfl, ?_⟩) S2 ?_
      rotate_left
      · intro wz hSz
        obtain ⟨⟨y0, y1, y2, y3, y4⟩, ⟨⟨z0, z1, z2, z3, z4⟩, ⟨z5, z6, z7, z8, z9⟩, ⟨z10, z11, z12, z13, z14⟩, -⟩⟩ := hSz
        go_simp
        (try with_reducible rfl)
      try simp only [Act.put, List.setIfInBounds_toArray, List.set_cons_zero, List.set_cons_succ]
      refine anyL_take (i := 7) (oi := { dst := some 47, op := Go.Op.load 29 (Go.Operand.tmp 3), type := 29, pos := "law.go:113", after := #[{ on := 5, ground := Go.Ground.guard }], guard := some (5, false) }) (v := ?_) rfl (by decide) (by kernel_rfl) (by kernel_rfl) (by kernel_rfl) (by kernel_rfl) (fun _ _ _ h => h) (Or.inl ⟨by rfl, ?_⟩) S2 ?_
      rotate_left
      · intro wz hSz
        obtain ⟨⟨y0, y1, y2, y3, y4⟩, ⟨⟨z0, z1, z2, z3, z4⟩, ⟨z5, z6, z7, z8, z9⟩, ⟨z10, z11, z12, z13, z14⟩, -⟩⟩ := hSz
        go_simp
        (try with_reducible rfl)
      try simp only [Act.put, List.setIfInBounds_toArray, List.set_cons_zero, List.set_cons_succ]
      refine anyL_take (i := 9) (oi := { dst := some 49, op := Go.Op.load 29 (Go.Operand.tmp 3), type := 29, pos := "law.go:113", after := #[{ on := 5, ground := Go.Ground.guard }], guard := some (5, false) }) (v := ?_) rfl (by decide) (by kernel_rfl) (by kernel_rfl) (by kernel_rfl) (by kernel_rfl) (fun _ _ _ h => h) (Or.inl ⟨by rfl, ?_⟩) S2 ?_
      rotate_left
      · intro wz hSz
        obtain ⟨⟨y0, y1, y2, y3, y4⟩, ⟨⟨z0, z1, z2, z3, z4⟩, ⟨z5, z6, z7, z8, z9⟩, ⟨z10, z11, z12, z13, z14⟩, -⟩⟩ := hSz
        go_simp
        (try with_reducible rfl)
      try simp only [Act.put, List.setIfInBounds_toArray, List.set_cons_zero, List.set_cons_succ]
      refine anyL_ready (rs := [8]) (by kernel_rfl) (by simp) ?_
      refine AllL.cons (o := { dst := some 48, op := Go.Op.call { callee := Go.Callee.value (Go.Operand.func 21), args := #[Go.Operand.tmp 46, Go.Operand.tmp 47], argTypes := #[29, 29] }, type := 29, pos := "law.go:113", after := #[{ on := 6, ground := Go.Ground.data }, { on := 7, ground := Go.Ground.data }, { on := 5, ground := Go.Ground.chain }, { on := 5, ground := Go.Ground.guard }], guard := some (5, false) }) rfl (fun K' hK => ?_) AllL.nil
      rw [if_pos (by rfl)]
      go_simp
      go_at_call 21
      refine (qk2.out _ HB2.out).mono ?_
      rintro e3 w3 ⟨rfl, b3⟩
      have S3 := HSB.out _ _ b3 S2
      have HB3 := Lib.hid (HB2.out.trans (b3.mono HB2.out.size))
      refine hK _ _ S3 ?_
      clear hK K' b3 S2
      try simp only [Act.put, List.setIfInBounds_toArray, List.set_cons_zero, List.set_cons_succ]
      refine anyL_take (i := 10) (oi := { dst := some 50, op := Go.Op.binOp Go.BinOp.neq 29 (Go.Operand.tmp 48) (Go.Operand.tmp 49) 29, type := 4, pos := "law.go:113", after := #[{ on := 8, ground := Go.Ground.data }, { on := 9, ground := Go.Ground.data }, { on := 5, ground := Go.Ground.guard }], guard := some (5, false) }) (v := ?_) rfl (by decide) (by kernel_rfl) (by kernel_rfl) (by kernel_rfl) (by kernel_rfl) (fun _ _ _ h => h) (Or.inl ⟨by rfl, ?_⟩) S3 ?_
      rotate_left
      · intro wz hSz
        skip
        go_simp
        (try with_reducible rfl)
      try simp only [Act.put, List.setIfInBounds_toArray, List.set_cons_zero, List.set_cons_succ]
      refine anyL_take (i := 11) (oi := { dst := some 51, op := Go.Op.pick (Go.Operand.tmp 45) (Go.Operand.const (Go.Value.bool true)) (Go.Operand.tmp 50), type := 4, pos := "law.go:113", after := #[{ on := 5, ground := Go.Ground.data }, { on := 10, ground := Go.Ground.data }], guard := none }) (v := ?_) rfl (by decide) (by kernel_rfl) (by kernel_rfl) (by kernel_rfl) (by kernel_rfl) (fun _ _ _ h => h) (Or.inl ⟨by rfl, ?_⟩) S3 ?_
      rotate_left
      · intro wz hSz
        skip
        go_simp
        (try with_reducible rfl)
      try simp only [Act.put, List.setIfInBounds_toArray, List.set_cons_zero, List.set_cons_succ]
      refine anyL_take (i := 12) (oi := { dst := some 52, op := Go.Op.move (Go.Operand.tmp 51), type := 4, pos := "law.go:113", after := #[{ on := 11, ground := Go.Ground.data }, { on := 8, ground := Go.Ground.chain }], guard := none }) (v := ?_) rfl (by decide) (by kernel_rfl) (by kernel_rfl) (by kernel_rfl) (by kernel_rfl) (fun _ _ _ h => h) (Or.inl ⟨by rfl, ?_⟩) S3 ?_
      rotate_left
      · intro wz hSz
        skip
        go_simp
        (try with_reducible rfl)
      try simp only [Act.put, List.setIfInBounds_toArray, List.set_cons_zero, List.set_cons_succ]
      refine anyL_take (i := 13) (oi := { dst := some 53, op := Go.Op.load 29 (Go.Operand.tmp 9), type := 29, pos := "law.go:113", after := #[{ on := 12, ground := Go.Ground.guard }], guard := some (12, false) }) (v := ?_) rfl (by decide) (by kernel_rfl) (by kernel_rfl) (by kernel_rfl) (by kernel_rfl) (fun _ _ _ h => h) (Or.inl ⟨by rfl, ?_⟩) S3 ?_
      rotate_left
      · intro wz hSz
        obtain ⟨⟨y0, y1, y2, y3, y4⟩, ⟨⟨z0, z1, z2, z3, z4⟩, ⟨z5, z6, z7, z8, z9⟩, ⟨z10, z11, z12, z13, z14⟩, -⟩⟩ := hSz
        go_simp
        (try with_reducible rfl)
      try simp only [Act.put, List.setIfInBounds_toArray, List.set_cons_zero, List.set_cons_succ]
      refine anyL_take (i := 14) (oi := { dst := some 54, op := Go.Op.load 29 (Go.Operand.tmp 5), type := 29, pos := "law.go:113", after := #[{ on := 12, ground := Go.Ground.guard }], guard := some (12, false) }) (v := ?_) rfl (by decide) (by kernel_rfl) (by kernel_rfl) (by kernel_rfl) (by kernel_rfl) (fun _ _ _ h => h) (Or.inl ⟨by rfl, ?_⟩) S3 ?_
      rotate_left
      · intro wz hSz
        obtain ⟨⟨y0, y1, y2, y3, y4⟩, ⟨⟨z0, z1, z2, z3, z4⟩, ⟨z5, z6, z7, z8, z9⟩, ⟨z10, z11, z12, z13, z14⟩, -⟩⟩ := hSz
        go_simp
        (try with_reducible rfl)
      try simp only [Act.put, List.setIfInBounds_toArray, List.set_cons_zero, List.set_cons_succ]
      refine anyL_take (i := 16) (oi := { dst := some 56, op := Go.Op.load 29 (Go.Operand.tmp 3), type := 29, pos := "law.go:113", after := #[{ on := 12, ground := Go.Ground.guard }], guard := some (12, false) }) (v := ?_) rfl (by decide) (by kernel_rfl) (by kernel_rfl) (by kernel_rfl) (by kernel_rfl) (fun _ _ _ h => h) (Or.inl ⟨by rfl, ?_⟩) S3 ?_
      rotate_left
      · intro wz hSz
        obtain ⟨⟨y0, y1, y2, y3, y4⟩, ⟨⟨z0, z1, z2, z3, z4⟩, ⟨z5, z6, z7, z8, z9⟩, ⟨z10, z11, z12, z13, z14⟩, -⟩⟩ := hSz
        go_simp
        (try with_reducible rfl)
      try simp only [Act.put, List.setIfInBounds_toArray, List.set_cons_zero, List.set_cons_succ]
      refine anyL_take (i := 17) (oi := { dst := some 57, op := Go.Op.load 29 (Go.Operand.tmp 4), type := 29, pos := "law.go:113", after := #[{ on := 12, ground := Go.Ground.guard }], guard := some (12, false) }) (v := ?_) rfl (by decide) (by kernel_rfl) (by kernel_rfl) (by kernel_rfl) (by kernel_rfl) (fun _ _ _ h => h) (Or.inl ⟨by rfl, ?_⟩) S3 ?_
      rotate_left
      · intro wz hSz
        obtain ⟨⟨y0, y1, y2, y3, y4⟩, ⟨⟨z0, z1, z2, z3, z4⟩, ⟨z5, z6, z7, z8, z9⟩, ⟨z10, z11, z12, z13, z14⟩, -⟩⟩ := hSz
        go_simp
        (try with_reducible rfl)
      try simp only [Act.put, List.setIfInBounds_toArray, List.set_cons_zero, List.set_cons_succ]
      refine anyL_take (i := 18) (oi := { dst := some 58, op := Go.Op.load 29 (Go.Operand.tmp 5), type := 29, pos := "law.go:113", after := #[{ on := 12, ground := Go.Ground.guard }], guard := some (12, false) }) (v := ?_) rfl (by decide) (by kernel_rfl) (by kernel_rfl) (by kernel_rfl) (by kernel_rfl) (fun _ _ _ h => h) (Or.inl ⟨by rfl, ?_⟩) S3 ?_
      rotate_left
      · intro wz hSz
        obtain ⟨⟨y0, y1, y2, y3, y4⟩, ⟨⟨z0, z1, z2, z3, z4⟩, ⟨z5, z6, z7, z8, z9⟩, ⟨z10, z11, z12, z13, z14⟩, -⟩⟩ := hSz
        go_simp
        (try with_reducible rfl)
      try simp only [Act.put, List.setIfInBounds_toArray, List.set_cons_zero, List.set_cons_succ]
      refine anyL_ready (rs := [15]) (by kernel_rfl) (by simp) ?_
      refine AllL.cons (o := { dst := some 55, op := Go.Op.call { callee := Go.Callee.value (Go.Operand.func 21), args := #[Go.Operand.tmp 53, Go.Operand.tmp 54], argTypes := #[29, 29] }, type := 29, pos := "law.go:113", after := #[{ on := 13, ground := Go.Ground.data }, { on := 14, ground := Go.Ground.data }, { on := 12, ground := Go.Ground.chain }, { on := 12, ground := Go.Ground.guard }], guard := some (12, false) }) rfl (fun K' hK => ?_) AllL.nil
      rw [if_pos (by rfl)]
      go_simp
      go_at_call 21
      refine (qk3.out _ HB3.out).mono ?_
      rintro e4 w4 ⟨rfl, b4⟩
      have S4 := HSB.out _ _ b4 S3
      have HB4 := Lib.hid (HB3.out.trans (b4.mono HB3.out.size))
      refine hK _ _ S4 ?_
      clear hK K' b4 S3
      try simp only [Act.put, List.setIfInBounds_toArray, List.set_cons_zero, List.set_cons_succ]
      refine anyL_ready (rs := [19]) (by kernel_rfl) (by simp) ?_
      refine AllL.cons (o := { dst := some 59, op := Go.Op.call { callee := Go.Callee.value (Go.Operand.func 21), args := #[Go.Operand.tmp 57, Go.Operand.tmp 58], argTypes := #[29, 29] }, type := 29, pos := "law.go:113", after := #[{ on := 17, ground := Go.Ground.data }, { on := 18, ground := Go.Ground.data }, { on := 15, ground := Go.Ground.chain }, { on := 12, ground := Go.Ground.guard }], guard := some (12, false) }) rfl (fun K' hK => ?_) AllL.nil
      rw [if_pos (by rfl)]
      go_simp
      go_at_call 21
      refine (qk4.out _ HB4.out).mono ?_
      rintro e5 w5 ⟨rfl, b5⟩
      have S5 := HSB.out _ _ b5 S4
      have HB5 := Lib.hid (HB4.out.trans (b5.mono HB4.out.size))
      refine hK _ _ S5 ?_
      clear hK K' b5 S4
      try simp only [Act.put, List.setIfInBounds_toArray, List.set_cons_zero, List.set_cons_succ]
      refine anyL_ready (rs := [20]) (by kernel_rfl) (by simp) ?_
      refine AllL.cons (o := { dst := some 60, op := Go.Op.call { callee := Go.Callee.value (Go.Operand.func 21), args := #[Go.Operand.tmp 56, Go.Operand.tmp 59], argTypes := #[29, 29] }, type := 29, pos := "law.go:113", after := #[{ on := 16, ground := Go.Ground.data }, { on := 19, ground := Go.Ground.data }, { on := 19, ground := Go.Ground.chain }, { on := 12, ground := Go.Ground.guard }], guard := some (12, false) }) rfl (fun K' hK => ?_) AllL.nil
      rw [if_pos (by rfl)]
      go_simp
      go_at_call 21
      refine (qk5.out _ HB5.out).mono ?_
      rintro e6 w6 ⟨rfl, b6⟩
      have S6 := HSB.out _ _ b6 S5
      have HB6 := Lib.hid (HB5.out.trans (b6.mono HB5.out.size))
      refine hK _ _ S6 ?_
      clear hK K' b6 S5
      try simp only [Act.put, List.setIfInBounds_toArray, List.set_cons_zero, List.set_cons_succ]
      refine anyL_take (i := 21) (oi := { dst := some 61, op := Go.Op.binOp Go.BinOp.neq 29 (Go.Operand.tmp 55) (Go.Operand.tmp 60) 29, type := 4, pos := "law.go:113", after := #[{ on := 15, ground := Go.Ground.data }, { on := 20, ground := Go.Ground.data }, { on := 12, ground := Go.Ground.guard }], guard := some (12, false) }) (v := ?_) rfl (by decide) (by kernel_rfl) (by kernel_rfl) (by kernel_rfl) (by kernel_rfl) (fun _ _ _ h => h) (Or.inl ⟨by rfl, ?_⟩) S6 ?_
      rotate_left
      · intro wz hSz
        skip
        go_simp
        (try with_reducible rfl)
      try simp only [Act.put, List.setIfInBounds_toArray, List.set_cons_zero, List.set_cons_succ]
      refine anyL_take (i := 22) (oi := { dst := some 62, op := Go.Op.pick (Go.Operand.tmp 52) (Go.Operand.const (Go.Value.bool true)) (Go.Operand.tmp 61), type := 4, pos := "law.go:113", after := #[{ on := 12, ground := Go.Ground.data }, { on := 21, ground := Go.Ground.data }], guard := none }) (v := ?_) rfl (by decide) (by kernel_rfl) (by kernel_rfl) (by kernel_rfl) (by kernel_rfl) (fun _ _ _ h => h) (Or.inl ⟨by rfl, ?_⟩) S6 ?_
      rotate_left
      · intro wz hSz
        skip
        go_simp
        (try with_reducible rfl)
      try simp only [Act.put, List.setIfInBounds_toArray, List.set_cons_zero, List.set_cons_succ]
      refine anyL_done (by kernel_rfl) ?_ _
      have HS := Lib.hid S6
      have HB := HB6
      clear S6 HB6
      cases ha : valE a
      · rw [ha] at qk8
        clear ha
        obtain ⟨⟨g0, g1, g2, g3, g4⟩, ⟨⟨f00, f01, f02, f03, f04⟩, ⟨f10, f11, f12, f13, f14⟩, ⟨f20, f21, f22, f23, f24⟩, -⟩⟩ := id HS.out
        go_wp2
        have SD7 : (EBox w6.drew bx xab) ∧ EBox w6.drew w.heap.size a ∧ EBox w6.drew (w.heap.size + 1) b ∧ EBox w6.drew (w.heap.size + 2) c ∧ True := HS.out
        have HD7 := Lib.hid (show Below w.heap.size w w6.drew from HB.out.drew)
        clear HS HB
        clear g0 g1 g2 g3 g4 f00 f01 f02 f03 f04 f10 f11 f12 f13 f14 f20 f21 f22 f23 f24
        refine wp_region_late (S := fun w' => (EBox w' bx xab) ∧ EBox w' w.heap.size a ∧ EBox w' (w.heap.size + 1) b ∧ EBox w' (w.heap.size + 2) c ∧ True) (D := []) (by kernel_rfl) ?_
        refine anyL_ready (rs := [0]) (by kernel_rfl) (by simp) ?_
        refine AllL.cons (o := { dst := some 63, op := Go.Op.call { callee := Go.Callee.value (Go.Operand.func 8), args := #[], argTypes := #[] }, type := 4, pos := "law.go:116", after := #[], guard := none }) rfl (fun K' hK => ?_) AllL.nil
        rw [if_pos (by rfl)]
        go_simp
        go_at_call 8
        refine (qcA.out _ HD7.out).mono ?_
        rintro e8 w8 ⟨rfl, b8⟩
        have S8 := HSB.out _ _ b8 SD7
        have HB8 := Lib.hid (HD7.out.trans (b8.mono HD7.out.size))
        refine hK _ _ S8 ?_
        clear hK K' b8 SD7
        try simp only [Act.put, List.setIfInBounds_toArray, List.set_cons_zero, List.set_cons_succ]
        refine anyL_take (i := 1) (oi := { dst := some 64, op := Go.Op.move (Go.Operand.tmp 63), type := 4, pos := "law.go:116", after := #[{ on := 0, ground := Go.Ground.data }, { on := 0, ground := Go.Ground.chain }], guard := none }) (v := ?_) rfl (by decide) (by kernel_rfl) (by kernel_rfl) (by kernel_rfl) (by kernel_rfl) (fun _ _ _ h => h) (Or.inl ⟨by rfl, ?_⟩) S8 ?_
        rotate_left
        · intro wz hSz
          skip
          go_simp
          (try with_reducible rfl)
        try simp only [Act.put, List.setIfInBounds_toArray, List.set_cons_zero, List.set_cons_succ]
        refine anyL_take (i := 2) (oi := { dst := some 65, op := Go.Op.load 29 (Go.Operand.tmp 3), type := 29, pos := "law.go:116", after := #[{ on := 1, ground := Go.Ground.guard }], guard := some (1, true) }) (v := ?_) rfl (by decide) (by kernel_rfl) (by kernel_rfl) (by kernel_rfl) (by kernel_rfl) (fun _ _ _ h => h) (Or.inl ⟨by rfl, ?_⟩) S8 ?_
        rotate_left
        · intro wz hSz
          obtain ⟨⟨y0, y1, y2, y3, y4⟩, ⟨⟨z0, z1, z2, z3, z4⟩, ⟨z5, z6, z7, z8, z9⟩, ⟨z10, z11, z12, z13, z14⟩, -⟩⟩ := hSz
          go_simp
          (try with_reducible rfl)
        try simp only [Act.put, List.setIfInBounds_toArray, List.set_cons_zero, List.set_cons_succ]
        refine anyL_ready (rs := [3]) (by kernel_rfl) (by simp) ?_
        refine AllL.cons (o := { dst := some 66, op := Go.Op.call { callee := Go.Callee.value (Go.Operand.func 23), args := #[Go.Operand.tmp 65], argTypes := #[29] }, type := 4, pos := "law.go:116", after := #[{ on := 2, ground := Go.Ground.data }, { on := 1, ground := Go.Ground.chain }, { on := 1, ground := Go.Ground.guard }], guard := some (1, true) }) rfl (fun K' hK => ?_) AllL.nil
        rw [if_pos (by rfl)]
        go_simp
        go_at_call 23
        refine (qk8.out _).mono ?_
        rintro e9 w9 ⟨rfl, b9⟩
        have S9 := HSB.out _ _ b9 S8
        have HB9 := Lib.hid (HB8.out.trans (b9.mono HB8.out.size))
        refine hK _ _ S9 ?_
        clear hK K' b9 S8
        try simp only [Act.put, List.setIfInBounds_toArray, List.set_cons_zero, List.set_cons_succ]
        refine anyL_take (i := 4) (oi := { dst := some 67, op := Go.Op.unOp Go.UnOp.not 4 (Go.Operand.tmp 66), type := 4, pos := "law.go:116", after := #[{ on := 3, ground := Go.Ground.data }, { on := 1, ground := Go.Ground.guard }], guard := some (1, true) }) (v := ?_) rfl (by decide) (by kernel_rfl) (by kernel_rfl) (by kernel_rfl) (by kernel_rfl) (fun _ _ _ h => h) (Or.inl ⟨by rfl, ?_⟩) S9 ?_
        rotate_left
        · intro wz hSz
          skip
          go_simp
          (try with_reducible rfl)
        try simp only [Act.put, List.setIfInBounds_toArray, List.set_cons_zero, List.set_cons_succ]
        refine anyL_take (i := 5) (oi := { dst := some 68, op := Go.Op.move (Go.Operand.tmp 67), type := 4, pos := "law.go:116", after := #[{ on := 4, ground := Go.Ground.data }, { on := 3, ground := Go.Ground.chain }, { on := 1, ground := Go.Ground.guard }], guard := some (1, true) }) (v := ?_) rfl (by decide) (by kernel_rfl) (by kernel_rfl) (by kernel_rfl) (by kernel_rfl) (fun _ _ _ h => h) (Or.inl ⟨by rfl, ?_⟩) S9 ?_
        rotate_left
        · intro wz hSz
          skip
          go_simp
          (try with_reducible rfl)
        try simp only [Act.put, List.setIfInBounds_toArray, List.set_cons_zero, List.set_cons_succ]
        refine anyL_take (i := 6) (oi := { dst := some 69, op := Go.Op.load 29 (Go.Operand.tmp 4), type := 29, pos := "law.go:116", after := #[{ on := 5, ground := Go.Ground.guard }], guard := some (5, false) }) (v := undef) rfl (by decide) (by kernel_rfl) (by kernel_rfl) (by kernel_rfl) (by kernel_rfl) (fun _ _ _ h => h) (Or.inr ⟨by rfl, rfl⟩) S9 ?_
        try simp only [Act.put, List.setIfInBounds_toArray, List.set_cons_zero, List.set_cons_succ]
        refine anyL_take (i := 7) (oi := { dst := some 70, op := Go.Op.call { callee := Go.Callee.value (Go.Operand.func 23), args := #[Go.Operand.tmp 69], argTypes := #[29] }, type := 4, pos := "law.go:116", after := #[{ on := 6, ground := Go.Ground.data }, { on := 5, ground := Go.Ground.chain }, { on := 5, ground := Go.Ground.guard }], guard := some (5, false) }) (v := undef) rfl (by decide) (by kernel_rfl) (by kernel_rfl) (by kernel_rfl) (by kernel_rfl) (fun _ _ _ h => h) (Or.inr ⟨by rfl, rfl⟩) S9 ?_
        try simp only [Act.put, List.setIfInBounds_toArray, List.set_cons_zero, List.set_cons_succ]
        refine anyL_take (i := 8) (oi := { dst := some 71, op := Go.Op.unOp Go.UnOp.not 4 (Go.Operand.tmp 70), type := 4, pos := "law.go:116", after := #[{ on := 7, ground := Go.Ground.data }, { on := 5, ground := Go.Ground.guard }], guard := some (5, false) }) (v := undef) rfl (by decide) (by kernel_rfl) (by kernel_rfl) (by kernel_rfl) (by kernel_rfl) (fun _ _ _ h => h) (Or.inr ⟨by rfl, rfl⟩) S9 ?_
        try simp only [Act.put, List.setIfInBounds_toArray, List.set_cons_zero, List.set_cons_succ]
        refine anyL_take (i := 9) (oi := { dst := some 72, op := Go.Op.pick (Go.Operand.tmp 68) (Go.Operand.const (Go.Value.bool true)) (Go.Operand.tmp 71), type := 4, pos := "law.go:116", after := #[{ on := 5, ground := Go.Ground.data }, { on := 8, ground := Go.Ground.data }, { on := 1, ground := Go.Ground.guard }], guard := some (1, true) }) (v := ?_) rfl (by decide) (by kernel_rfl) (by kernel_rfl) (by kernel_rfl) (by kernel_rfl) (fun _ _ _ h => h) (Or.inl ⟨by rfl, ?_⟩) S9 ?_
        rotate_left
        · intro wz hSz
          skip
          go_simp
          (try with_reducible rfl)
        try simp only [Act.put, List.setIfInBounds_toArray, List.set_cons_zero, List.set_cons_succ]
        refine anyL_take (i := 10) (oi := { dst := some 73, op := Go.Op.move (Go.Operand.tmp 72), type := 4, pos := "law.go:116", after := #[{ on := 9, ground := Go.Ground.data }, { on := 7, ground := Go.Ground.chain }, { on := 1, ground := Go.Ground.guard }], guard := some (1, true) }) (v := ?_) rfl (by decide) (by kernel_rfl) (by kernel_rfl) (by kernel_rfl) (by kernel_rfl) (fun _ _ _ h => h) (Or.inl ⟨by rfl, ?_⟩) S9 ?_
        rotate_left
        · intro wz hSz
          skip
          go_simp
          (try with_reducible rfl)
        try simp only [Act.put, List.setIfInBounds_toArray, List.set_cons_zero, List.set_cons_succ]
        refine anyL_take (i := 11) (oi := { dst := some 74, op := Go.Op.load 29 (Go.Operand.tmp 4), type := 29, pos := "law.go:116", after := #[{ on := 10, ground := Go.Ground.guard }], guard := some (10, false) }) (v := undef) rfl (by decide) (by kernel_rfl) (by kernel_rfl) (by kernel_rfl) (by kernel_rfl) (fun _ _ _ h => h) (Or.inr ⟨by rfl, rfl⟩) S9 ?_
        try simp only [Act.put, List.setIfInBounds_toArray, List.set_cons_zero, List.set_cons_succ]
        refine anyL_take (i := 12) (oi := { dst := some 75, op := Go.Op.load 29 (Go.Operand.tmp 3), type := 29, pos := "law.go:116", after := #[{ on := 10, ground := Go.Ground.guard }], guard := some (10, false) }) (v := undef) rfl (by decide) (by kernel_rfl) (by kernel_rfl) (by kernel_rfl) (by kernel_rfl) (fun _ _ _ h => h) (Or.inr ⟨by rfl, rfl⟩) S9 ?_
        try simp only [Act.put, List.setIfInBounds_toArray, List.set_cons_zero, List.set_cons_succ]
        refine anyL_take (i := 13) (oi := { dst := some 76, op := Go.Op.call { callee := Go.Callee.value (Go.Operand.func 21), args := #[Go.Operand.tmp 74, Go.Operand.tmp 75], argTypes := #[29, 29] }, type := 29, pos := "law.go:116", after := #[{ on := 11, ground := Go.Ground.data }, { on := 12, ground := Go.Ground.data }, { on := 10, ground := Go.Ground.chain }, { on := 10, ground := Go.Ground.guard }], guard := some (10, false) }) (v := undef) rfl (by decide) (by kernel_rfl) (by kernel_rfl) (by kernel_rfl) (by kernel_rfl) (fun _ _ _ h => h) (Or.inr ⟨by rfl, rfl⟩) S9 ?_
        try simp only [Act.put, List.setIfInBounds_toArray, List.set_cons_zero, List.set_cons_succ]
        refine anyL_take (i := 14) (oi := { dst := some 77, op := Go.Op.load 29 (Go.Operand.tmp 9), type := 29, pos := "law.go:116", after := #[{ on := 10, ground := Go.Ground.guard }], guard := some (10, false) }) (v := undef) rfl (by decide) (by kernel_rfl) (by kernel_rfl) (by kernel_rfl) (by kernel_rfl) (fun _ _ _ h => h) (Or.inr ⟨by rfl, rfl⟩) S9 ?_
        try simp only [Act.put, List.setIfInBounds_toArray, List.set_cons_zero, List.set_cons_succ]
        refine anyL_take (i := 15) (oi := { dst := some 78, op := Go.Op.binOp Go.BinOp.eql 29 (Go.Operand.tmp 76) (Go.Operand.tmp 77) 29, type := 4, pos := "law.go:116", after := #[{ on := 13, ground := Go.Ground.data }, { on := 14, ground := Go.Ground.data }, { on := 10, ground := Go.Ground.guard }], guard := some (10, false) }) (v := undef) rfl (by decide) (by kernel_rfl) (by kernel_rfl) (by kernel_rfl) (by kernel_rfl) (fun _ _ _ h => h) (Or.inr ⟨by rfl, rfl⟩) S9 ?_
        try simp only [Act.put, List.setIfInBounds_toArray, List.set_cons_zero, List.set_cons_succ]
        refine anyL_take (i := 16) (oi := { dst := some 79, op := Go.Op.pick (Go.Operand.tmp 73) (Go.Operand.const (Go.Value.bool true)) (Go.Operand.tmp 78), type := 4, pos := "law.go:116", after := #[{ on := 10, ground := Go.Ground.data }, { on := 15, ground := Go.Ground.data }, { on := 1, ground := Go.Ground.guard }], guard := some (1, true) }) (v := ?_) rfl (by decide) (by kernel_rfl) (by kernel_rfl) (by kernel_rfl) (by kernel_rfl) (fun _ _ _ h => h) (Or.inl ⟨by rfl, ?_⟩) S9 ?_
        rotate_left
        · intro wz hSz
          skip
          go_simp
          (try with_reducible rfl)
        try simp only [Act.put, List.setIfInBounds_toArray, List.set_cons_zero, List.set_cons_succ]
        refine anyL_take (i := 17) (oi := { dst := some 80, op := Go.Op.pick (Go.Operand.tmp 64) (Go.Operand.tmp 79) (Go.Operand.const (Go.Value.bool false)), type := 4, pos := "law.go:116", after := #[{ on := 1, ground := Go.Ground.data }, { on := 16, ground := Go.Ground.data }], guard := none }) (v := ?_) rfl (by decide) (by kernel_rfl) (by kernel_rfl) (by kernel_rfl) (by kernel_rfl) (fun _ _ _ h => h) (Or.inl ⟨by rfl, ?_⟩) S9 ?_
        rotate_left
        · intro wz hSz
          skip
          go_simp
          (try with_reducible rfl)
        try simp only [Act.put, List.setIfInBounds_toArray, List.set_cons_zero, List.set_cons_succ]
        refine anyL_take (i := 18) (oi := { dst := some 6, op := Go.Op.assign (Go.Operand.tmp 80), type := 4, pos := "law.go:116", after := #[{ on := 17, ground := Go.Ground.data }, { on := 13, ground := Go.Ground.chain }, { on := 0, ground := Go.Ground.phase }, { on := 1, ground := Go.Ground.phase }, { on := 2, ground := Go.Ground.phase }, { on := 3, ground := Go.Ground.phase }, { on := 4, ground := Go.Ground.phase }, { on := 5, ground := Go.Ground.phase }, { on := 6, ground := Go.Ground.phase }, { on := 7, ground := Go.Ground.phase }, { on := 8, ground := Go.Ground.phase }, { on := 9, ground := Go.Ground.phase }, { on := 10, ground := Go.Ground.phase }, { on := 11, ground := Go.Ground.phase }, { on := 12, ground := Go.Ground.phase }, { on := 13, ground := Go.Ground.phase }, { on := 14, ground := Go.Ground.phase }, { on := 15, ground := Go.Ground.phase }, { on := 16, ground := Go.Ground.phase }, { on := 17, ground := Go.Ground.phase }], guard := none }) (v := ?_) rfl (by decide) (by kernel_rfl) (by kernel_rfl) (by kernel_rfl) (by kernel_rfl) (fun _ _ _ h => h) (Or.inl ⟨by rfl, ?_⟩) S9 ?_
        rotate_left
        · intro wz hSz
          skip
          go_simp
          (try with_reducible rfl)
        try simp only [Act.put, List.setIfInBounds_toArray, List.set_cons_zero, List.set_cons_succ]
        refine anyL_done (by kernel_rfl) ?_ _
        have HS := Lib.hid S9
        have HB := HB9
        clear S9 HB9
        obtain ⟨⟨g0, g1, g2, g3, g4⟩, ⟨⟨f00, f01, f02, f03, f04⟩, ⟨f10, f11, f12, f13, f14⟩, ⟨f20, f21, f22, f23, f24⟩, -⟩⟩ := id HS.out
        go_wp2
        go_ret
        exact ⟨by first | rfl | simp, HB.out⟩
      rw [ha] at qk8
      cases hb : valE b
      · rw [hb] at qk9
        clear ha hb
        obtain ⟨⟨g0, g1, g2, g3, g4⟩, ⟨⟨f00, f01, f02, f03, f04⟩, ⟨f10, f11, f12, f13, f14⟩, ⟨f20, f21, f22, f23, f24⟩, -⟩⟩ := id HS.out
        go_wp2
        have SD7 : (EBox w6.drew bx xab) ∧ EBox w6.drew w.heap.size a ∧ EBox w6.drew (w.heap.size + 1) b ∧ EBox w6.drew (w.heap.size + 2) c ∧ True := HS.out
        have HD7 := Lib.hid (show Below w.heap.size w w6.drew from HB.out.drew)
        clear HS HB
        clear g0 g1 g2 g3 g4 f00 f01 f02 f03 f04 f10 f11 f12 f13 f14 f20 f21 f22 f23 f24
        refine wp_region_late (S := fun w' => (EBox w' bx xab) ∧ EBox w' w.heap.size a ∧ EBox w' (w.heap.size + 1) b ∧ EBox w' (w.heap.size + 2) c ∧ True) (D := []) (by kernel_rfl) ?_
        refine anyL_ready (rs := [0]) (by kernel_rfl) (by simp) ?_
        refine AllL.cons (o := { dst := some 63, op := Go.Op.call { callee := Go.Callee.value (Go.Operand.func 8), args := #[], argTypes := #[] }, type := 4, pos := "law.go:116", after := #[], guard := none }) rfl (fun K' hK => ?_) AllL.nil
        rw [if_pos (by rfl)]
        go_simp
        go_at_call 8
        refine (qcA.out _ HD7.out).mono ?_
        rintro e8 w8 ⟨rfl, b8⟩
        have S8 := HSB.out _ _ b8 SD7
        have HB8 := Lib.hid (HD7.out.trans (b8.mono HD7.out.size))
        refine hK _ _ S8 ?_
        clear hK K' b8 SD7
        try simp only [Act.put, List.setIfInBounds_toArray, List.set_cons_zero, List.set_cons_succ]
        refine anyL_take (i := 1) (oi := { dst := some 64, op := Go.Op.move (Go.Operand.tmp 63), type := 4, pos := "law.go:116", after := #[{ on := 0, ground := Go.Ground.data }, { on := 0, ground := Go.Ground.chain }], guard := none }) (v := ?_) rfl (by decide) (by kernel_rfl) (by kernel_rfl) (by kernel_rfl) (by kernel_rfl) (fun _ _ _ h => h) (Or.inl ⟨by rfl, ?_⟩) S8 ?_
        rotate_left
        · intro wz hSz
          skip
          go_simp
          (try with_reducible rfl)
        try simp only [Act.put, List.setIfInBounds_toArray, List.set_cons_zero, List.set_cons_succ]
        refine anyL_take (i := 2) (oi := { dst := some 65, op := Go.Op.load 29 (Go.Operand.tmp 3), type := 29, pos := "law.go:116", after := #[{ on := 1, ground := Go.Ground.guard }], guard := some (1, true) }) (v := ?_) rfl (by decide) (by kernel_rfl) (by kernel_rfl) (by kernel_rfl) (by kernel_rfl) (fun _ _ _ h => h) (Or.inl ⟨by rfl, ?_⟩) S8 ?_
        rotate_left
        · intro wz hSz
          obtain ⟨⟨y0, y1, y2, y3, y4⟩, ⟨⟨z0, z1, z2, z3, z4⟩, ⟨z5, z6, z7, z8, z9⟩, ⟨z10, z11, z12, z13, z14⟩, -⟩⟩ := hSz
          go_simp
          (try with_reducible rfl)
        try simp only [Act.put, List.setIfInBounds_toArray, List.set_cons_zero, List.set_cons_succ]
        refine anyL_ready (rs := [3]) (by kernel_rfl) (by simp) ?_
        refine AllL.cons (o := { dst := some 66, op := Go.Op.call { callee := Go.Callee.value (Go.Operand.func 23), args := #[Go.Operand.tmp 65], argTypes := #[29] }, type := 4, pos := "law.go:116", after := #[{ on := 2, ground := Go.Ground.data }, { on := 1, ground := Go.Ground.chain }, { on := 1, ground := Go.Ground.guard }], guard := some (1, true) }) rfl (fun K' hK => ?_) AllL.nil
        rw [if_pos (by rfl)]
        go_simp
        go_at_call 23
        refine (qk8.out _).mono ?_
        rintro e9 w9 ⟨rfl, b9⟩
        have S9 := HSB.out _ _ b9 S8
        have HB9 := Lib.hid (HB8.out.trans (b9.mono HB8.out.size))
        refine hK _ _ S9 ?_
        clear hK K' b9 S8
        try simp only [Act.put, List.setIfInBounds_toArray, List.set_cons_zero, List.set_cons_succ]
        refine anyL_take (i := 4) (oi := { dst := some 67, op := Go.Op.unOp Go.UnOp.not 4 (Go.Operand.tmp 66), type := 4, pos := "law.go:116", after := #[{ on := 3, ground := Go.Ground.data }, { on := 1, ground := Go.Ground.guard }], guard := some (1, true) }) (v := ?_) rfl (by decide) (by kernel_rfl) (by kernel_rfl) (by kernel_rfl) (by kernel_rfl) (fun _ _ _ h => h) (Or.inl ⟨by rfl, ?_⟩) S9 ?_
        rotate_left
        · intro wz hSz
          skip
          go_simp
          (try with_reducible rfl)
        try simp only [Act.put, List.setIfInBounds_toArray, List.set_cons_zero, List.set_cons_succ]
        refine anyL_take (i := 5) (oi := { dst := some 68, op := Go.Op.move (Go.Operand.tmp 67), type := 4, pos := "law.go:116", after := #[{ on := 4, ground := Go.Ground.data }, { on := 3, ground := Go.Ground.chain }, { on := 1, ground := Go.Ground.guard }], guard := some (1, true) }) (v := ?_) rfl (by decide) (by kernel_rfl) (by kernel_rfl) (by kernel_rfl) (by kernel_rfl) (fun _ _ _ h => h) (Or.inl ⟨by rfl, ?_⟩) S9 ?_
        rotate_left
        · intro wz hSz
          skip
          go_simp
          (try with_reducible rfl)
        try simp only [Act.put, List.setIfInBounds_toArray, List.set_cons_zero, List.set_cons_succ]
        refine anyL_take (i := 6) (oi := { dst := some 69, op := Go.Op.load 29 (Go.Operand.tmp 4), type := 29, pos := "law.go:116", after := #[{ on := 5, ground := Go.Ground.guard }], guard := some (5, false) }) (v := ?_) rfl (by decide) (by kernel_rfl) (by kernel_rfl) (by kernel_rfl) (by kernel_rfl) (fun _ _ _ h => h) (Or.inl ⟨by rfl, ?_⟩) S9 ?_
        rotate_left
        · intro wz hSz
          obtain ⟨⟨y0, y1, y2, y3, y4⟩, ⟨⟨z0, z1, z2, z3, z4⟩, ⟨z5, z6, z7, z8, z9⟩, ⟨z10, z11, z12, z13, z14⟩, -⟩⟩ := hSz
          go_simp
          (try with_reducible rfl)
        try simp only [Act.put, List.setIfInBounds_toArray, List.set_cons_zero, List.set_cons_succ]
        refine anyL_ready (rs := [7]) (by kernel_rfl) (by simp) ?_
        refine AllL.cons (o := { dst := some 70, op := Go.Op.call { callee := Go.Callee.value (Go.Operand.func 23), args := #[Go.Operand.tmp 69], argTypes := #[29] }, type := 4, pos := "law.go:116", after := #[{ on := 6, ground := Go.Ground.data }, { on := 5, ground := Go.Ground.chain }, { on := 5, ground := Go.Ground.guard }], guard := some (5, false) }) rfl (fun K' hK => ?_) AllL.nil
        rw [if_pos (by rfl)]
        go_simp
        go_at_call 23
        refine (qk9.out _).mono ?_
        rintro e10 w10 ⟨rfl, b10⟩
        have S10 := HSB.out _ _ b10 S9
        have HB10 := Lib.hid (HB9.out.trans (b10.mono HB9.out.size))
        refine hK _ _ S10 ?_
        clear hK K' b10 S9
        try simp only [Act.put, List.setIfInBounds_toArray, List.set_cons_zero, List.set_cons_succ]
        refine anyL_take (i := 8) (oi := { dst := some 71, op := Go.Op.unOp Go.UnOp.not 4 (Go.Operand.tmp 70), type := 4, pos := "law.go:116", after := #[{ on := 7, ground := Go.Ground.data }, { on := 5, ground := Go.Ground.guard }], guard := some (5, false) }) (v := ?_) rfl (by decide) (by kernel_rfl) (by kernel_rfl) (by kernel_rfl) (by kernel_rfl) (fun _ _ _ h => h) (Or.inl ⟨by rfl, ?_⟩) S10 ?_
        rotate_left
        · intro wz hSz
          skip
          go_simp
          (try with_reducible rfl)
        try simp only [Act.put, List.setIfInBounds_toArray, List.set_cons_zero, List.set_cons_succ]
        refine anyL_take (i := 9) (oi := { dst := some 72, op := Go.Op.pick (Go.Operand.tmp 68) (Go.Operand.const (Go.Value.bool true)) (Go.Operand.tmp 71), type := 4, pos := "law.go:116", after := #[{ on := 5, ground := Go.Ground.data }, { on := 8, ground := Go.Ground.data }, { on := 1, ground := Go.Ground.guard }], guard := some (1, true) }) (v := ?_) rfl (by decide) (by kernel_rfl) (by kernel_rfl) (by kernel_rfl) (by kernel_rfl) (fun _ _ _ h => h) (Or.inl ⟨by rfl, ?_⟩) S10 ?_
        rotate_left
        · intro wz hSz
          skip
          go_simp
          (try with_reducible rfl)
        try simp only [Act.put, List.setIfInBounds_toArray, List.set_cons_zero, List.set_cons_succ]
        refine anyL_take (i := 10) (oi := { dst := some 73, op := Go.Op.move (Go.Operand.tmp 72), type := 4, pos := "law.go:116", after := #[{ on := 9, ground := Go.Ground.data }, { on := 7, ground := Go.Ground.chain }, { on := 1, ground := Go.Ground.guard }], guard := some (1, true) }) (v := ?_) rfl (by decide) (by kernel_rfl) (by kernel_rfl) (by kernel_rfl) (by kernel_rfl) (fun _ _ _ h => h) (Or.inl ⟨by rfl, ?_⟩) S10 ?_
        rotate_left
        · intro wz hSz
          skip
          go_simp
          (try with_reducible rfl)
        try simp only [Act.put, List.setIfInBounds_toArray, List.set_cons_zero, List.set_cons_succ]
        refine anyL_take (i := 11) (oi := { dst := some 74, op := Go.Op.load 29 (Go.Operand.tmp 4), type := 29, pos := "law.go:116", after := #[{ on := 10, ground := Go.Ground.guard }], guard := some (10, false) }) (v := undef) rfl (by decide) (by kernel_rfl) (by kernel_rfl) (by kernel_rfl) (by kernel_rfl) (fun _ _ _ h => h) (Or.inr ⟨by rfl, rfl⟩) S10 ?_
        try simp only [Act.put, List.setIfInBounds_toArray, List.set_cons_zero, List.set_cons_succ]
        refine anyL_take (i := 12) (oi := { dst := some 75, op := Go.Op.load 29 (Go.Operand.tmp 3), type := 29, pos := "law.go:116", after := #[{ on := 10, ground := Go.Ground.guard }], guard := some (10, false) }) (v := undef) rfl (by decide) (by kernel_rfl) (by kernel_rfl) (by kernel_rfl) (by kernel_rfl) (fun _ _ _ h => h) (Or.inr ⟨by rfl, rfl⟩) S10 ?_
        try simp only [Act.put, List.setIfInBounds_toArray, List.set_cons_zero, List.set_cons_succ]
        refine anyL_take (i := 13) (oi := { dst := some 76, op := Go.Op.call { callee := Go.Callee.value (Go.Operand.func 21), args := #[Go.Operand.tmp 74, Go.Operand.tmp 75], argTypes := #[29, 29] }, type := 29, pos := "law.go:116", after := #[{ on := 11, ground := Go.Ground.data }, { on := 12, ground := Go.Ground.data }, { on := 10, ground := Go.Ground.chain }, { on := 10, ground := Go.Ground.guard }], guard := some (10, false) }) (v := undef) rfl (by decide) (by kernel_rfl) (by kernel_rfl) (by kernel_rfl) (by kernel_rfl) (fun _ _ _ h => h) (Or.inr ⟨by rfl, rfl⟩) S10 ?_
        try simp only [Act.put, List.setIfInBounds_toArray, List.set_cons_zero, List.set_cons_succ]
        refine anyL_take (i := 14) (oi := { dst := some 77, op := Go.Op.load 29 (Go.Operand.tmp 9), type := 29, pos := "law.go:116", after := #[{ on := 10, ground := Go.Ground.guard }], guard := some (10, false) }) (v := undef) rfl (by decide) (by kernel_rfl) (by kernel_rfl) (by kernel_rfl) (by kernel_rfl) (fun _ _ _ h => h) (Or.inr ⟨by rfl, rfl⟩) S10 ?_
        try simp only [Act.put, List.setIfInBounds_toArray, List.set_cons_zero, List.set_cons_succ]
        refine anyL_take (i := 15) (oi := { dst := some 78, op := Go.Op.binOp Go.BinOp.eql 29 (Go.Operand.tmp 76) (Go.Operand.tmp 77) 29, type := 4, pos := "law.go:116", after := #[{ on := 13, ground := Go.Ground.data }, { on := 14, ground := Go.Ground.data }, { on := 10, ground := Go.Ground.guard }], guard := some (10, false) }) (v := undef) rfl (by decide) (by kernel_rfl) (by kernel_rfl) (by kernel_rfl) (by kernel_rfl) (fun _ _ _ h => h) (Or.inr ⟨by rfl, rfl⟩) S10 ?_
        try simp only [Act.put, List.setIfInBounds_toArray, List.set_cons_zero, List.set_cons_succ]
        refine anyL_take (i := 16) (oi := { dst := some 79, op := Go.Op.pick (Go.Operand.tmp 73) (Go.Operand.const (Go.Value.bool true)) (Go.Operand.tmp 78), type := 4, pos := "law.go:116", after := #[{ on := 10, ground := Go.Ground.data }, { on := 15, ground := Go.Ground.data }, { on := 1, ground := Go.Ground.guard }], guard := some (1, true) }) (v := ?_) rfl (by decide) (by kernel_rfl) (by kernel_rfl) (by kernel_rfl) (by kernel_rfl) (fun _ _ _ h => h) (Or.inl ⟨by rfl, ?_⟩) S10 ?_
        rotate_left
        · intro wz hSz
          skip
          go_simp
          (try with_reducible rfl)
        try simp only [Act.put, List.setIfInBounds_toArray, List.set_cons_zero, List.set_cons_succ]
        refine anyL_take (i := 17) (oi := { dst := some 80, op := Go.Op.pick (Go.Operand.tmp 64) (Go.Operand.tmp 79) (Go.Operand.const (Go.Value.bool false)), type := 4, pos := "law.go:116", after := #[{ on := 1, ground := Go.Ground.data }, { on := 16, ground := Go.Ground.data }], guard := none }) (v := ?_) rfl (by decide) (by kernel_rfl) (by kernel_rfl) (by kernel_rfl) (by kernel_rfl) (fun _ _ _ h => h) (Or.inl ⟨by rfl, ?_⟩) S10 ?_
        rotate_left
        · intro wz hSz
          skip
          go_simp
          (try with_reducible rfl)
        try simp only [Act.put, List.setIfInBounds_toArray, List.set_cons_zero, List.set_cons_succ]
        refine anyL_take (i := 18) (oi := { dst := some 6, op := Go.Op.assign (Go.Operand.tmp 80), type := 4, pos := "law.go:116", after := #[{ on := 17, ground := Go.Ground.data }, { on := 13, ground := Go.Ground.chain }, { on := 0, ground := Go.Ground.phase }, { on := 1, ground := Go.Ground.phase }, { on := 2, ground := Go.Ground.phase }, { on := 3, ground := Go.Ground.phase }, { on := 4, ground := Go.Ground.phase }, { on := 5, ground := Go.Ground.phase }, { on := 6, ground := Go.Ground.phase }, { on := 7, ground := Go.Ground.phase }, { on := 8, ground := Go.Ground.phase }, { on := 9, ground := Go.Ground.phase }, { on := 10, ground := Go.Ground.phase }, { on := 11, ground := Go.Ground.phase }, { on := 12, ground := Go.Ground.phase }, { on := 13, ground := Go.Ground.phase }, { on := 14, ground := Go.Ground.phase }, { on := 15, ground := Go.Ground.phase }, { on := 16, ground := Go.Ground.phase }, { on := 17, ground := Go.Ground.phase }], guard := none }) (v := ?_) rfl (by decide) (by kernel_rfl) (by kernel_rfl) (by kernel_rfl) (by kernel_rfl) (fun _ _ _ h => h) (Or.inl ⟨by rfl, ?_⟩) S10 ?_
        rotate_left
        · intro wz hSz
          skip
          go_simp
          (try with_reducible rfl)
        try simp only [Act.put, List.setIfInBounds_toArray, List.set_cons_zero, List.set_cons_succ]
        refine anyL_done (by kernel_rfl) ?_ _
        have HS := Lib.hid S10
        have HB := HB10
        clear S10 HB10
        obtain ⟨⟨g0, g1, g2, g3, g4⟩, ⟨⟨f00, f01, f02, f03, f04⟩, ⟨f10, f11, f12, f13, f14⟩, ⟨f20, f21, f22, f23, f24⟩, -⟩⟩ := id HS.out
        go_wp2
        go_ret
        exact ⟨by first | rfl | simp, HB.out⟩
      rw [hb] at qk9
      have hco := qco.out ha
      rw [hco] at qk6
      clear ha hb hco
      obtain ⟨⟨g0, g1, g2, g3, g4⟩, ⟨⟨f00, f01, f02, f03, f04⟩, ⟨f10, f11, f12, f13, f14⟩, ⟨f20, f21, f22, f23, f24⟩, -⟩⟩ := id HS.out
      go_wp2
      have SD7 : (EBox w6.drew bx xab) ∧ EBox w6.drew w.heap.size a ∧ EBox w6.drew (w.heap.size + 1) b ∧ EBox w6.drew (w.heap.size + 2) c ∧ True := HS.out
      have HD7 := Lib.hid (show Below w.heap.size w w6.drew from HB.out.drew)
      clear HS HB
      clear g0 g1 g2 g3 g4 f00 f01 f02 f03 f04 f10 f11 f12 f13 f14 f20 f21 f22 f23 f24
      refine wp_region_late (S := fun w' => (EBox w' bx xab) ∧ EBox w' w.heap.size a ∧ EBox w' (w.heap.size + 1) b ∧ EBox w' (w.heap.size + 2) c ∧ True) (D := []) (by kernel_rfl) ?_
      refine anyL_ready (rs := [0]) (by kernel_rfl) (by simp) ?_
      refine AllL.cons (o := { dst := some 63, op := Go.Op.call { callee := Go.Callee.value (Go.Operand.func 8), args := #[], argTypes := #[] }, type := 4, pos := "law.go:116", after := #[], guard := none }) rfl (fun K' hK => ?_) AllL.nil
      rw [if_pos (by rfl)]
      go_simp
      go_at_call 8
      refine (qcA.out _ HD7.out).mono ?_
      rintro e8 w8 ⟨rfl, b8⟩
      have S8 := HSB.out _ _ b8 SD7
      have HB8 := Lib.hid (HD7.out.trans (b8.mono HD7.out.size))
      refine hK _ _ S8 ?_
      clear hK K' b8 SD7
      try simp only [Act.put, List.setIfInBounds_toArray, List.set_cons_zero, List.set_cons_succ]
      refine anyL_take (i := 1) (oi := { dst := some 64, op := Go.Op.move (Go.Operand.tmp 63), type := 4, pos := "law.go:116", after := #[{ on := 0, ground := Go.Ground.data }, { on := 0, ground := Go.Ground.chain }], guard := none }) (v := ?_) rfl (by decide) (by kernel_rfl) (by kernel_rfl) (by kernel_rfl) (by kernel_rfl) (fun _ _ _ h => h) (Or.inl ⟨by rfl, ?_⟩) S8 ?_
      rotate_left
      · intro wz hSz
        skip
        go_simp
        (try with_reducible rfl)
      try simp only [Act.put, List.setIfInBounds_toArray, List.set_cons_zero, List.set_cons_succ]
      refine anyL_take (i := 2) (oi := { dst := some 65, op := Go.Op.load 29 (Go.Operand.tmp 3), type := 29, pos := "law.go:116", after := #[{ on := 1, ground := Go.Ground.guard }], guard := some (1, true) }) (v := ?_) rfl (by decide) (by kernel_rfl) (by kernel_rfl) (by kernel_rfl) (by kernel_rfl) (fun _ _ _ h => h) (Or.inl ⟨by rfl, ?_⟩) S8 ?_
      rotate_left
      · intro wz hSz
        obtain ⟨⟨y0, y1, y2, y3, y4⟩, ⟨⟨z0, z1, z2, z3, z4⟩, ⟨z5, z6, z7, z8, z9⟩, ⟨z10, z11, z12, z13, z14⟩, -⟩⟩ := hSz
        go_simp
        (try with_reducible rfl)
      try simp only [Act.put, List.setIfInBounds_toArray, List.set_cons_zero, List.set_cons_succ]
      refine anyL_ready (rs := [3]) (by kernel_rfl) (by simp) ?_
      refine AllL.cons (o := { dst := some 66, op := Go.Op.call { callee := Go.Callee.value (Go.Operand.func 23), args := #[Go.Operand.tmp 65], argTypes := #[29] }, type := 4, pos := "law.go:116", after := #[{ on := 2, ground := Go.Ground.data }, { on := 1, ground := Go.Ground.chain }, { on := 1, ground := Go.Ground.guard }], guard := some (1, true) }) rfl (fun K' hK => ?_) AllL.nil
      rw [if_pos (by rfl)]
      go_simp
      go_at_call 23
      refine (qk8.out _).mono ?_
      rintro e9 w9 ⟨rfl, b9⟩
      have S9 := HSB.out _ _ b9 S8
      have HB9 := Lib.hid (HB8.out.trans (b9.mono HB8.out.size))
      refine hK _ _ S9 ?_
      clear hK K' b9 S8
      try simp only [Act.put, List.setIfInBounds_toArray, List.set_cons_zero, List.set_cons_succ]
      refine anyL_take (i := 4) (oi := { dst := some 67, op := Go.Op.unOp Go.UnOp.not 4 (Go.Operand.tmp 66), type := 4, pos := "law.go:116", after := #[{ on := 3, ground := Go.Ground.data }, { on := 1, ground := Go.Ground.guard }], guard := some (1, true) }) (v := ?_) rfl (by decide) (by kernel_rfl) (by kernel_rfl) (by kernel_rfl) (by kernel_rfl) (fun _ _ _ h => h) (Or.inl ⟨by rfl, ?_⟩) S9 ?_
      rotate_left
      · intro wz hSz
        skip
        go_simp
        (try with_reducible rfl)
      try simp only [Act.put, List.setIfInBounds_toArray, List.set_cons_zero, List.set_cons_succ]
      refine anyL_take (i := 5) (oi := { dst := some 68, op := Go.Op.move (Go.Operand.tmp 67), type := 4, pos := "law.go:116", after := #[{ on := 4, ground := Go.Ground.data }, { on := 3, ground := Go.Ground.chain }, { on := 1, ground := Go.Ground.guard }], guard := some (1, true) }) (v := ?_) rfl (by decide) (by kernel_rfl) (by kernel_rfl) (by kernel_rfl) (by kernel_rfl) (fun _ _ _ h => h) (Or.inl ⟨by rfl, ?_⟩) S9 ?_
      rotate_left
      · intro wz hSz
        skip
        go_simp
        (try with_reducible rfl)
      try simp only [Act.put, List.setIfInBounds_toArray, List.set_cons_zero, List.set_cons_succ]
      refine anyL_take (i := 6) (oi := { dst := some 69, op := Go.Op.load 29 (Go.Operand.tmp 4), type := 29, pos := "law.go:116", after := #[{ on := 5, ground := Go.Ground.guard }], guard := some (5, false) }) (v := ?_) rfl (by decide) (by kernel_rfl) (by kernel_rfl) (by kernel_rfl) (by kernel_rfl) (fun _ _ _ h => h) (Or.inl ⟨by rfl, ?_⟩) S9 ?_
      rotate_left
      · intro wz hSz
        obtain ⟨⟨y0, y1, y2, y3, y4⟩, ⟨⟨z0, z1, z2, z3, z4⟩, ⟨z5, z6, z7, z8, z9⟩, ⟨z10, z11, z12, z13, z14⟩, -⟩⟩ := hSz
        go_simp
        (try with_reducible rfl)
      try simp only [Act.put, List.setIfInBounds_toArray, List.set_cons_zero, List.set_cons_succ]
      refine anyL_ready (rs := [7]) (by kernel_rfl) (by simp) ?_
      refine AllL.cons (o := { dst := some 70, op := Go.Op.call { callee := Go.Callee.value (Go.Operand.func 23), args := #[Go.Operand.tmp 69], argTypes := #[29] }, type := 4, pos := "law.go:116", after := #[{ on := 6, ground := Go.Ground.data }, { on := 5, ground := Go.Ground.chain }, { on := 5, ground := Go.Ground.guard }], guard := some (5, false) }) rfl (fun K' hK => ?_) AllL.nil
      rw [if_pos (by rfl)]
      go_simp
      go_at_call 23
      refine (qk9.out _).mono ?_
      rintro e10 w10 ⟨rfl, b10⟩
      have S10 := HSB.out _ _ b10 S9
      have HB10 := Lib.hid (HB9.out.trans (b10.mono HB9.out.size))
      refine hK _ _ S10 ?_
      clear hK K' b10 S9
      try simp only [Act.put, List.setIfInBounds_toArray, List.set_cons_zero, List.set_cons_succ]
      refine anyL_take (i := 8) (oi := { dst := some 71, op := Go.Op.unOp Go.UnOp.not 4 (Go.Operand.tmp 70), type := 4, pos := "law.go:116", after := #[{ on := 7, ground := Go.Ground.data }, { on := 5, ground := Go.Ground.guard }], guard := some (5, false) }) (v := ?_) rfl (by decide) (by kernel_rfl) (by kernel_rfl) (by kernel_rfl) (by kernel_rfl) (fun _ _ _ h => h) (Or.inl ⟨by rfl, ?_⟩) S10 ?_
      rotate_left
      · intro wz hSz
        skip
        go_simp
        (try with_reducible rfl)
      try simp only [Act.put, List.setIfInBounds_toArray, List.set_cons_zero, List.set_cons_succ]
      refine anyL_take (i := 9) (oi := { dst := some 72, op := Go.Op.pick (Go.Operand.tmp 68) (Go.Operand.const (Go.Value.bool true)) (Go.Operand.tmp 71), type := 4, pos := "law.go:116", after := #[{ on := 5, ground := Go.Ground.data }, { on := 8, ground := Go.Ground.data }, { on := 1, ground := Go.Ground.guard }], guard := some (1, true) }) (v := ?_) rfl (by decide) (by kernel_rfl) (by kernel_rfl) (by kernel_rfl) (by kernel_rfl) (fun _ _ _ h => h) (Or.inl ⟨by rfl, ?_⟩) S10 ?_
      rotate_left
      · intro wz hSz
        skip
        go_simp
        (try with_reducible rfl)
      try simp only [Act.put, List.setIfInBounds_toArray, List.set_cons_zero, List.set_cons_succ]
      refine anyL_take (i := 10) (oi := { dst := some 73, op := Go.Op.move (Go.Operand.tmp 72), type := 4, pos := "law.go:116", after := #[{ on := 9, ground := Go.Ground.data }, { on := 7, ground := Go.Ground.chain }, { on := 1, ground := Go.Ground.guard }], guard := some (1, true) }) (v := ?_) rfl (by decide) (by kernel_rfl) (by kernel_rfl) (by kernel_rfl) (by kernel_rfl) (fun _ _ _ h => h) (Or.inl ⟨by rfl, ?_⟩) S10 ?_
      rotate_left
      · intro wz hSz
        skip
        go_simp
        (try with_reducible rfl)
      try simp only [Act.put, List.setIfInBounds_toArray, List.set_cons_zero, List.set_cons_succ]
      refine anyL_take (i := 11) (oi := { dst := some 74, op := Go.Op.load 29 (Go.Operand.tmp 4), type := 29, pos := "law.go:116", after := #[{ on := 10, ground := Go.Ground.guard }], guard := some (10, false) }) (v := ?_) rfl (by decide) (by kernel_rfl) (by kernel_rfl) (by kernel_rfl) (by kernel_rfl) (fun _ _ _ h => h) (Or.inl ⟨by rfl, ?_⟩) S10 ?_
      rotate_left
      · intro wz hSz
        obtain ⟨⟨y0, y1, y2, y3, y4⟩, ⟨⟨z0, z1, z2, z3, z4⟩, ⟨z5, z6, z7, z8, z9⟩, ⟨z10, z11, z12, z13, z14⟩, -⟩⟩ := hSz
        go_simp
        (try with_reducible rfl)
      try simp only [Act.put, List.setIfInBounds_toArray, List.set_cons_zero, List.set_cons_succ]
      refine anyL_take (i := 12) (oi := { dst := some 75, op := Go.Op.load 29 (Go.Operand.tmp 3), type := 29, pos := "law.go:116", after := #[{ on := 10, ground := Go.Ground.guard }], guard := some (10, false) }) (v := ?_) rfl (by decide) (by kernel_rfl) (by kernel_rfl) (by kernel_rfl) (by kernel_rfl) (fun _ _ _ h => h) (Or.inl ⟨by rfl, ?_⟩) S10 ?_
      rotate_left
      · intro wz hSz
        obtain ⟨⟨y0, y1, y2, y3, y4⟩, ⟨⟨z0, z1, z2, z3, z4⟩, ⟨z5, z6, z7, z8, z9⟩, ⟨z10, z11, z12, z13, z14⟩, -⟩⟩ := hSz
        go_simp
        (try with_reducible rfl)
      try simp only [Act.put, List.setIfInBounds_toArray, List.set_cons_zero, List.set_cons_succ]
      refine anyL_take (i := 14) (oi := { dst := some 77, op := Go.Op.load 29 (Go.Operand.tmp 9), type := 29, pos := "law.go:116", after := #[{ on := 10, ground := Go.Ground.guard }], guard := some (10, false) }) (v := ?_) rfl (by decide) (by kernel_rfl) (by kernel_rfl) (by kernel_rfl) (by kernel_rfl) (fun _ _ _ h => h) (Or.inl ⟨by rfl, ?_⟩) S10 ?_
      rotate_left
      · intro wz hSz
        obtain ⟨⟨y0, y1, y2, y3, y4⟩, ⟨⟨z0, z1, z2, z3, z4⟩, ⟨z5, z6, z7, z8, z9⟩, ⟨z10, z11, z12, z13, z14⟩, -⟩⟩ := hSz
        go_simp
        (try with_reducible rfl)
      try simp only [Act.put, List.setIfInBounds_toArray, List.set_cons_zero, List.set_cons_succ]
      refine anyL_ready (rs := [13]) (by kernel_rfl) (by simp) ?_
      refine AllL.cons (o := { dst := some 76, op := Go.Op.call { callee := Go.Callee.value (Go.Operand.func 21), args := #[Go.Operand.tmp 74, Go.Operand.tmp 75], argTypes := #[29, 29] }, type := 29, pos := "law.go:116", after := #[{ on := 11, ground := Go.Ground.data }, { on := 12, ground := Go.Ground.data }, { on := 10, ground := Go.Ground.chain }, { on := 10, ground := Go.Ground.guard }], guard := some (10, false) }) rfl (fun K' hK => ?_) AllL.nil
      rw [if_pos (by rfl)]
      go_simp
      go_at_call 21
      refine (qk6.out _ HB10.out).mono ?_
      rintro e11 w11 ⟨rfl, b11⟩
      have S11 := HSB.out _ _ b11 S10
      have HB11 := Lib.hid (HB10.out.trans (b11.mono HB10.out.size))
      refine hK _ _ S11 ?_
      clear hK K' b11 S10
      try simp only [Act.put, List.setIfInBounds_toArray, List.set_cons_zero, List.set_cons_succ]
      refine anyL_take (i := 15) (oi := { dst := some 78, op := Go.Op.binOp Go.BinOp.eql 29 (Go.Operand.tmp 76) (Go.Operand.tmp 77) 29, type := 4, pos := "law.go:116", after := #[{ on := 13, ground := Go.Ground.data }, { on := 14, ground := Go.Ground.data }, { on := 10, ground := Go.Ground.guard }], guard := some (10, false) }) (v := ?_) rfl (by decide) (by kernel_rfl) (by kernel_rfl) (by kernel_rfl) (by kernel_rfl) (fun _ _ _ h => h) (Or.inl ⟨by rfl, ?_⟩) S11 ?_
      rotate_left
      · intro wz hSz
        skip
        go_simp
        (try with_reducible rfl)
      try simp only [Act.put, List.setIfInBounds_toArray, List.set_cons_zero, List.set_cons_succ]
      refine anyL_take (i := 16) (oi := { dst := some 79, op := Go.Op.pick (Go.Operand.tmp 73) (Go.Operand.const (Go.Value.bool true)) (Go.Operand.tmp 78), type := 4, pos := "law.go:116", after := #[{ on := 10, ground := Go.Ground.data }, { on := 15, ground := Go.Ground.data }, { on := 1, ground := Go.Ground.guard }], guard := some (1, true) }) (v := ?_) rfl (by decide) (by kernel_rfl) (by kernel_rfl) (by kernel_rfl) (by kernel_rfl) (fun _ _ _ h => h) (Or.inl ⟨by rfl, ?_⟩) S11 ?_
      rotate_left
      · intro wz hSz
        skip
        go_simp
        (try with_reducible rfl)
      try simp only [Act.put, List.setIfInBounds_toArray, List.set_cons_zero, List.set_cons_succ]
      refine anyL_take (i := 17) (oi := { dst := some 80, op := Go.Op.pick (Go.Operand.tmp 64) (Go.Operand.tmp 79) (Go.Operand.const (Go.Value.bool false)), type := 4, pos := "law.go:116", after := #[{ on := 1, ground := Go.Ground.data }, { on := 16, ground := Go.Ground.data }], guard := none }) (v := ?_) rfl (by decide) (by kernel_rfl) (by kernel_rfl) (by kernel_rfl) (by kernel_rfl) (fun _ _ _ h => h) (Or.inl ⟨by rfl, ?_⟩) S11 ?_
      rotate_left
      · intro wz hSz
        skip
        go_simp
        (try with_reducible rfl)
      try simp only [Act.put, List.setIfInBounds_toArray, List.set_cons_zero, List.set_cons_succ]
      refine anyL_take (i := 18) (oi := { dst := some 6, op := Go.Op.assign (Go.Operand.tmp 80), type := 4, pos := "law.go:116", after := #[{ on := 17, ground := Go.Ground.data }, { on := 13, ground := Go.Ground.chain }, { on := 0, ground := Go.Ground.phase }, { on := 1, ground := Go.Ground.phase }, { on := 2, ground := Go.Ground.phase }, { on := 3, ground := Go.Ground.phase }, { on := 4, ground := Go.Ground.phase }, { on := 5, ground := Go.Ground.phase }, { on := 6, ground := Go.Ground.phase }, { on := 7, ground := Go.Ground.phase }, { on := 8, ground := Go.Ground.phase }, { on := 9, ground := Go.Ground.phase }, { on := 10, ground := Go.Ground.phase }, { on := 11, ground := Go.Ground.phase }, { on := 12, ground := Go.Ground.phase }, { on := 13, ground := Go.Ground.phase }, { on := 14, ground := Go.Ground.phase }, { on := 15, ground := Go.Ground.phase }, { on := 16, ground := Go.Ground.phase }, { on := 17, ground := Go.Ground.phase }], guard := none }) (v := ?_) rfl (by decide) (by kernel_rfl) (by kernel_rfl) (by kernel_rfl) (by kernel_rfl) (fun _ _ _ h => h) (Or.inl ⟨by rfl, ?_⟩) S11 ?_
      rotate_left
      · intro wz hSz
        skip
        go_simp
        (try with_reducible rfl)
      try simp only [Act.put, List.setIfInBounds_toArray, List.set_cons_zero, List.set_cons_succ]
      refine anyL_done (by kernel_rfl) ?_ _
      have HS := Lib.hid S11
      have HB := HB11
      clear S11 HB11
      obtain ⟨⟨g0, g1, g2, g3, g4⟩, ⟨⟨f00, f01, f02, f03, f04⟩, ⟨f10, f11, f12, f13, f14⟩, ⟨f20, f21, f22, f23, f24⟩, -⟩⟩ := id HS.out
      go_wp2
      go_ret
      exact ⟨by first | rfl | simp, HB.out⟩
end Go.Proofs.YtggfblodjanfkaaDoor
end
