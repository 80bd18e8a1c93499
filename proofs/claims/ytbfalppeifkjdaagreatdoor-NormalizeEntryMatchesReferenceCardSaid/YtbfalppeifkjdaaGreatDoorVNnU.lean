/- Packed from the texts NnU. -/
import Derived.Test.YtbfalppeifkjdaaGreatDoorVNmF
import Derived.Test.YtbfalppeifkjdaaGreatDoorVk5
import Derived.Test.YtbfalppeifkjdaaGreatDoorVk6
import Derived.Test.YtbfalppeifkjdaaGreatDoorVm8
section
namespace Go.Proofs.YtbfalppeifkjdaaGreatDoor
open Go.RowKit
set_option maxRecDepth 100000 in
set_option maxHeartbeats 16000000 in
theorem walk_NEntryA (x : EntD) (w : World) (hs : x.id.size ≤ 140737488351232 ∧ x.title.size ≤ 140737488351232 ∧ x.link.size ≤ 140737488351232 ∧ x.content.size ≤ 140737488351232) (hT : TabW w) (hx : 5000 < x.id.size + x.title.size + x.link.size + x.content.size) :
    Calls Tryz.prog 3 #[EntV x] w fun e' w' => e' = .returned (.bool true) ∧ Below w.heap.size w w' := by
  obtain ⟨W1, hW1⟩ : ∃ W1, W1 = w.alloc (.cells #[.string x.id, .string x.title, .string x.link, .string x.content, .int .i64 x.upd] 23) := ⟨_, rfl⟩
  have hB : Below w.heap.size w W1 := by rw [hW1]; exact (Below.refl _ _).alloc (Nat.le_refl _) _
  obtain ⟨e0, e1, e2, e3, e4⟩ : EBox W1 w.heap.size x := by rw [hW1]; exact EBox.new w x
  have cA := nz_alive W1 (TabW_below hT hB)
  have HB := Lib.hid hB
  have b0 : ((x.id.size : Int)) ≤ 140737488351232 := by omega
  have b1 : ((x.title.size : Int)) ≤ 140737488351232 := by omega
  have b2 : ((x.link.size : Int)) ≤ 140737488351232 := by omega
  have b3 : ((x.content.size : Int)) ≤ 140737488351232 := by omega
  have hw1 : IntKind.i64.wrap ((x.id.size : Int) + x.title.size) = (x.id.size : Int) + x.title.size := wrap_small _ (by omega) (by omega)
  have hw2 : IntKind.i64.wrap ((x.id.size : Int) + x.title.size + x.link.size) = (x.id.size : Int) + x.title.size + x.link.size := wrap_small _ (by omega) (by omega)
  have hw3 : IntKind.i64.wrap ((x.id.size : Int) + x.title.size + x.link.size + x.content.size) = (x.id.size : Int) + x.title.size + x.link.size + x.content.size := wrap_small _ (by omega) (by omega)
  have hgt : (5000 : Int) < (x.id.size : Int) + x.title.size + x.link.size + x.content.size := by omega
  clear hB hT hs hx
  unfold EntV
  go_enter Tryz.func3, Tryz.ntmps3
  go_upto_region 1 with fail
  simp only [← hW1]
  clear hW1
  go_wp2_with fail
  refine cA.mono ?_
  rintro e w2 ⟨rfl, b2⟩
  have HB2 := Lib.hid (HB.out.trans (b2.mono HB.out.size))
  clear b2 cA HB
  go_wp2
  go_ret
  exact ⟨rfl, HB2.out⟩
set_option maxRecDepth 100000 in
set_option maxHeartbeats 16000000 in
theorem walk_NEntryB (x : EntD) (w : World) (hT : TabW w) (hx : x.id.size + x.title.size + x.link.size + x.content.size ≤ 5000) :
    Calls Tryz.prog 3 #[EntV x] w fun e' w' => e' = .returned (.bool true) ∧ Below w.heap.size w w' := by
  obtain ⟨W1, hW1⟩ : ∃ W1, W1 = w.alloc (.cells #[.string x.id, .string x.title, .string x.link, .string x.content, .int .i64 x.upd] 23) := ⟨_, rfl⟩
  have hB : Below w.heap.size w W1 := by rw [hW1]; exact (Below.refl _ _).alloc (Nat.le_refl _) _
  have hX : EBox W1 w.heap.size x := by rw [hW1]; exact EBox.new w x
  obtain ⟨e0, e1, e2, e3, e4⟩ := id hX
  have hw1 : IntKind.i64.wrap ((x.id.size : Int) + x.title.size) = (x.id.size : Int) + x.title.size := wrap_small _ (by omega) (by omega)
  have hw2 : IntKind.i64.wrap ((x.id.size : Int) + x.title.size + x.link.size) = (x.id.size : Int) + x.title.size + x.link.size := wrap_small _ (by omega) (by omega)
  have hw3 : IntKind.i64.wrap ((x.id.size : Int) + x.title.size + x.link.size + x.content.size) = (x.id.size : Int) + x.title.size + x.link.size + x.content.size := wrap_small _ (by omega) (by omega)
  have hgt : ¬ (5000 : Int) < (x.id.size : Int) + x.title.size + x.link.size + x.content.size := by omega
  have kE := Lib.hid (fun wx (hb : Below w.heap.size w wx) => nz_Entry x wx (by omega) (by omega) (by omega) (by omega) (mu_below hT.1 hb))
  have kR := Lib.hid (fun wx => nref_Entry x wx (by omega) (by omega) (by omega) (by omega))
  have kA := Lib.hid (fun wx (hb : Below w.heap.size w wx) => nz_alive wx (TabW_below hT hb))
  have hN0 := entX_zero x
  obtain ⟨n, hn⟩ : ∃ n, nrmE x = n := ⟨_, rfl⟩
  obtain ⟨X, hXx⟩ : ∃ X, entX x = X := ⟨_, rfl⟩
  have hgood : X = 0 → n = entN x ∧ okE n = true := fun h0 => by
    rw [← hXx] at h0
    have hne : n = entN x := by rw [← hn]; unfold nrmE; rw [if_pos h0]
    exact ⟨hne, by rw [hne]; exact entN_ok x h0⟩
  rw [hn, hXx] at kE kR
  have hsz : X = 0 → n.id.size ≤ 5000 ∧ n.title.size ≤ 5000 ∧ n.link.size ≤ 5000 ∧ n.content.size ≤ 5000 := fun h0 => by
    rw [(hgood h0).1]
    have a1 := colB_size x.id
    have a2 := colB_size x.title
    have a3 := colB_size x.link
    have a4 := colB_size x.content
    exact ⟨by show (colB x.id).size ≤ _; omega, by show (colB x.title).size ≤ _; omega, by show (colB x.link).size ≤ _; omega, by show (colB x.content).size ≤ _; omega⟩
  have kE2 := Lib.hid (fun (h0 : X = 0) wx (hb : Below w.heap.size w wx) => nz_Entry n wx (by have := hsz h0; omega) (by have := hsz h0; omega) (by have := hsz h0; omega) (by have := hsz h0; omega) (mu_below hT.1 hb))
  have kC := Lib.hid (fun (h0 : X = 0) wx => mref_CheckEntry n wx (by have := hsz h0; omega) (by have := hsz h0; omega) (by have := hsz h0; omega) (by have := hsz h0; omega))
  have hself : X = 0 → entX n = 0 ∧ nrmE n = n := fun h0 => by
    have h1 := entN_self n (hgood h0).2
    exact ⟨h1.1, by unfold nrmE; rw [if_pos h1.1, h1.2]⟩
  have HSELF := Lib.hid hself
  have HGOOD := Lib.hid hgood
  have hq : ∀ wx, (binOp .neq 23 (.agg #[.string n.id, .string n.title, .string n.link, .string n.content, .int .i64 n.upd]) (.agg #[.string n.id, .string n.title, .string n.link, .string n.content, .int .i64 n.upd])).run Tryz.prog wx = .ok (.bool false) wx := fun wx => by
    have := ment_neq n n wx
    rw [(eqE_iff n n).2 rfl] at this
    exact this
  have hq2 : ∀ wx, (binOp .eql 23 (.agg #[.string n.id, .string n.title, .string n.link, .string n.content, .int .i64 n.upd]) (.agg #[.string n.id, .string n.title, .string n.link, .string n.content, .int .i64 n.upd])).run Tryz.prog wx = .ok (.bool true) wx := fun wx => by
    have := ment_eql n n wx
    rw [(eqE_iff n n).2 rfl] at this
    exact this
  have HB := Lib.hid hB
  have HX := Lib.hid hX
  have hB' := kE.out W1 hB
  unfold EntV at hB'
  obtain ⟨Xz, hXz⟩ : ∃ z : Int, z = (X : Int) := ⟨_, rfl⟩
  rw [← hXz] at hB'
  have HXZ := Lib.hid hXz
  clear hB hX hT hx hN0 hn hXx hgood hsz hself hXz
  unfold EntV
  go_enter Tryz.func3, Tryz.ntmps3
  go_upto_region 1 with fail
  simp only [← hW1]
  clear hW1
  go_wp2_with fail
  refine hB'.mono ?_
  rintro e w2 ⟨rfl, b2⟩
  obtain ⟨W3, hW3⟩ : ∃ W3, W3 = w2.alloc (.cells #[.string n.id, .string n.title, .string n.link, .string n.content, .int .i64 n.upd] 23) := ⟨_, rfl⟩
  have b3 : Below w2.heap.size w2 W3 := by rw [hW3]; exact (Below.refl _ _).alloc (Nat.le_refl _) _
  have b23 := b2.trans (b3.mono b2.size)
  have hB3 := HB.out.trans (b23.mono HB.out.size)
  have hN3 : EBox W3 w2.heap.size n := by rw [hW3]; exact EBox.new w2 n
  have hX3 := HX.out.below b23
  have k2 := kR.out W3
  unfold EntV at k2
  rw [← HXZ.out] at k2
  replace e0 := hX3.1
  replace e1 := hX3.2.1
  replace e2 := hX3.2.2.1
  replace e3 := hX3.2.2.2.1
  replace e4 := hX3.2.2.2.2
  obtain ⟨bn, hbn⟩ : ∃ b, b = w2.heap.size := ⟨_, rfl⟩
  rw [← hbn] at hN3
  have HBN := Lib.hid hbn
  have HB3 := Lib.hid hB3
  have HN3 := Lib.hid hN3
  clear b2 b3 b23 hB3 hN3 hX3 hB' hbn HX
  go_upto_region 4 with fail
  simp only [← hW3, ← HBN.out]
  clear hW3
  go_wp2_with fail
  refine k2.mono ?_
  rintro e w4 ⟨rfl, b4⟩
  obtain ⟨W5, hW5⟩ : ∃ W5, W5 = w4.alloc (.cells #[.string n.id, .string n.title, .string n.link, .string n.content, .int .i64 n.upd] 23) := ⟨_, rfl⟩
  have b5 : Below w4.heap.size w4 W5 := by rw [hW5]; exact (Below.refl _ _).alloc (Nat.le_refl _) _
  have b45 := b4.trans (b5.mono b4.size)
  have HB5 := Lib.hid (HB3.out.trans (b45.mono HB3.out.size))
  have hN5 := HN3.out.below b45
  obtain ⟨bm, hbm⟩ : ∃ b, b = w4.heap.size := ⟨_, rfl⟩
  have hM5 : EBox W5 bm n := by rw [hW5, hbm]; exact EBox.new w4 n
  have HBM := Lib.hid hbm
  have HN5 := Lib.hid hN5
  have n0 := hN5.1
  have n1 := hN5.2.1
  have n2 := hN5.2.2.1
  have n3 := hN5.2.2.2.1
  have n4 := hN5.2.2.2.2
  have m0 := hM5.1
  have m1 := hM5.2.1
  have m2 := hM5.2.2.1
  have m3 := hM5.2.2.2.1
  have m4 := hM5.2.2.2.2
  clear b4 b5 b45 hN5 hM5 hbm HN3 HB3 k2 e0 e1 e2 e3 e4
  go_upto_region 5 with fail
  simp only [← hW5, ← HBM.out]
  clear hW5
  by_cases hz : Xz = 0
  case neg =>
    have cA := kA.out W5 HB5.out
    go_wp2_with fail
    refine cA.mono ?_
    rintro e w6 ⟨rfl, b6⟩
    have HB6 := Lib.hid (HB5.out.trans (b6.mono HB5.out.size))
    clear b6 cA
    go_wp2
    go_ret
    exact ⟨rfl, HB6.out⟩
  case pos =>
    subst hz
    have h0 : X = 0 := by have := HXZ.out; omega
    have c2 := kE2.out h0 W5 HB5.out
    rw [(HSELF.out h0).1, (HSELF.out h0).2] at c2
    unfold EntV at c2
    have hok := (HGOOD.out h0).2
    have HOK := Lib.hid hok
    have H0 := Lib.hid h0
    clear hok h0
    go_upto_region 9 with fail
    go_wp2_with fail
    refine c2.mono ?_
    rintro e w6 ⟨rfl, b6⟩
    obtain ⟨W7, hW7⟩ : ∃ W7, W7 = w6.alloc (.cells #[.string n.id, .string n.title, .string n.link, .string n.content, .int .i64 n.upd] 23) := ⟨_, rfl⟩
    have b7 : Below w6.heap.size w6 W7 := by rw [hW7]; exact (Below.refl _ _).alloc (Nat.le_refl _) _
    have b67 := b6.trans (b7.mono b6.size)
    have hB7 := HB5.out.trans (b67.mono HB5.out.size)
    have hN7 := HN5.out.below b67
    obtain ⟨bk, hbk⟩ : ∃ b, b = w6.heap.size := ⟨_, rfl⟩
    have hK7 : EBox W7 bk n := by rw [hW7, hbk]; exact EBox.new w6 n
    have HBK := Lib.hid hbk
    have HN7 := Lib.hid hN7
    have HK7 := Lib.hid hK7
    have HB7 := Lib.hid hB7
    clear b6 b7 b67 hN7 hK7 hbk hB7 c2 n0 n1 n2 n3 n4 m0 m1 m2 m3 m4
    go_upto_region 10 with fail
    simp only [← hW7, ← HBK.out]
    clear hW7
    have cA := kA.out W7 HB7.out
    go_wp2_with fail
    refine cA.mono ?_
    rintro e w8 ⟨rfl, b8⟩
    have hN8 := HN7.out.below b8
    have hK8 := HK7.out.below b8
    have n0 := hN8.1
    have n1 := hN8.2.1
    have n2 := hN8.2.2.1
    have n3 := hN8.2.2.2.1
    have n4 := hN8.2.2.2.2
    have m0 := hK8.1
    have m1 := hK8.2.1
    have m2 := hK8.2.2.1
    have m3 := hK8.2.2.2.1
    have m4 := hK8.2.2.2.2
    have HB8 := Lib.hid (HB7.out.trans (b8.mono HB7.out.size))
    have cC := kC.out H0.out w8
    rw [HOK.out] at cC
    unfold EntV at cC
    clear b8 hN8 hK8 cA
    go_wp2_with fail
    refine cC.mono ?_
    rw [show errZ true = 0 from rfl]
    rintro e w9 ⟨rfl, b9⟩
    have HB9 := Lib.hid (HB8.out.trans (b9.mono HB8.out.size))
    clear b9 cC
    go_wp2
    go_ret
    exact ⟨rfl, HB9.out⟩
theorem walk_NEntry (x : EntD) (w : World) (hs : x.id.size ≤ 140737488351232 ∧ x.title.size ≤ 140737488351232 ∧ x.link.size ≤ 140737488351232 ∧ x.content.size ≤ 140737488351232) (hT : TabW w) :
    Calls Tryz.prog 3 #[EntV x] w fun e' w' => e' = .returned (.bool true) ∧ Below w.heap.size w w' := by
  by_cases hx : 5000 < x.id.size + x.title.size + x.link.size + x.content.size
  · exact walk_NEntryA x w hs hT hx
  · exact walk_NEntryB x w hT (by omega)
end Go.Proofs.YtbfalppeifkjdaaGreatDoor
end
