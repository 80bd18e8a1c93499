/- Package rfc3339: Parse: what it returns. -/
import Derived.Test.YtdbpkggjnmapiaaDoorDatV
import Derived.Test.YtdbpkggjnmapiaaDoorDatE
import Derived.Test.YtdbpkggjnmapiaaDoorDatQ
import Derived.Deep.RegionHeld3
namespace Go.Proofs.YtdbpkggjnmapiaaDoor
open Go.RowKit

theorem skipL_len (l : List Int) : (skipL l).length ≤ l.length := by
  unfold skipL
  split
  · rw [List.length_drop]; omega
  · exact Nat.le_refl _
theorem own_three {w : World} {base : Nat} {v : Value} {x y z : Int} (h : w.ownsRow base 3 1 v 3 (ints [x, y, z])) :
    ∃ p c, p < w.heap.size ∧ v = .slice (some ⟨p, 0, none⟩) 3 c ∧ w.cell? ⟨p, 0, none⟩ = some (.int .i64 x) ∧ w.cell? ⟨p, 1, none⟩ = some (.int .i64 y) ∧ w.cell? ⟨p, 2, none⟩ = some (.int .i64 z) := by
  have hc := fun g => h.cells (g := g)
  have hlt := h.lt
  rcases h.2 with ⟨_, h0⟩ | ⟨g, cap, cur, rfl, _⟩
  · cases h0
  · have c0 := hc g rfl 0 _ rfl
    have c1 := hc g rfl 1 _ rfl
    have c2 := hc g rfl 2 _ rfl
    rw [addr_add] at c0 c1 c2
    exact ⟨g, cap, (hlt g rfl).2, rfl, c0, c1, c2⟩
theorem wid_422 (w : World) : ∀ j, j < [4, 2, 2].length → (w.alloc (.cells #[.int .i64 4, .int .i64 2, .int .i64 2] 3)).cell? ⟨w.heap.size, j, none⟩ = some (.int .i64 (([4, 2, 2].getD j 0 : Nat) : Int)) := by
  intro j hj
  rw [World.cell?_alloc_at _ _ _ _ rfl]
  match j, hj with
  | 0, _ => rfl
  | 1, _ => rfl
  | 2, _ => rfl
theorem wid_222 (w : World) : ∀ j, j < [2, 2, 2].length → (w.alloc (.cells #[.int .i64 2, .int .i64 2, .int .i64 2] 3)).cell? ⟨w.heap.size, j, none⟩ = some (.int .i64 (([2, 2, 2].getD j 0 : Nat) : Int)) := by
  intro j hj
  rw [World.cell?_alloc_at _ _ _ _ rfl]
  match j, hj with
  | 0, _ => rfl
  | 1, _ => rfl
  | 2, _ => rfl
set_option maxRecDepth 100000 in
set_option maxHeartbeats 8000000 in
theorem dat_Parse (s : ByteArray) (w : World) (hs : s.size ≤ 140737488351232) (hT : DatT w) : Calls Tryd.prog 31 #[.string s] w fun e w' => e = .returned (.tuple #[.int .i64 (parseL (zs s)).1, .int .i64 (parseL (zs s)).2]) ∧ Below w.heap.size w w' := by
  by_cases hlen : s.size < 19
  · have HS := Lib.hid (short_no (l := zs s) (by rw [zs_length]; exact hlen))
    have hz : (s.size : Int) < 19 := by omega
    clear hlen
    go_enter Tryd.func31, Tryd.ntmps31
    go_wp2
    go_ret2
    exact ⟨retP HS.out, Below.refl _ _⟩
  have hz : ¬ (s.size : Int) < 19 := by omega
  have h10 : 10 < s.size := by omega
  obtain ⟨y, hy⟩ : ∃ y, s[10]'h10 = y := ⟨_, rfl⟩
  have hch := ch_at s 10 h10
  rw [hy] at hch
  generalize hyc : (y.toNat : Int) = c0 at *
  by_cases hcc : c0 = 84 ∨ c0 = 116
  · have hsl1 : ∀ wx, _ := fun wx => slice_to s 10 (by omega) (by omega) wx
    have hsl2 : ∀ wx, _ := fun wx => slice_mid s 11 19 (by omega) (by omega) (by omega) wx
    have hsl3 : ∀ wx, _ := fun wx => slice_from s 19 (by omega) (by omega) wx
    have hp1 : zs (s.extract 0 (10 : Int).toNat) = (zs s).take 10 := by rw [zs_extract]; rfl
    have hp2 : zs (s.extract (11 : Int).toNat (19 : Int).toNat) = ((zs s).take 19).drop 11 := by rw [zs_extract, List.drop_take]; rfl
    have hp3 : zs (s.extract (19 : Int).toNat s.size) = (zs s).drop 19 := by rw [zs_extract]; exact List.take_of_length_le (by simp [zs_length])
    have hq3 : (s.extract (19 : Int).toNat s.size).size ≤ 140737488351232 := by have := congrArg List.length hp3; rw [zs_length, List.length_drop, zs_length] at this; omega
    generalize s.extract 0 (10 : Int).toNat = p1 at *
    generalize s.extract (11 : Int).toNat (19 : Int).toNat = p2 at *
    generalize s.extract (19 : Int).toNat s.size = p3 at *
    have cG1 := dat_groups p1 45 [4, 2, 2] w.heap.size (w.alloc (.cells #[.int .i64 4, .int .i64 2, .int .i64 2] 3)) (by simp) (by omega) (by decide) (by decide) (wid_422 w)
    have cG2 : ∀ wx : World, _ := fun wx => dat_groups p2 58 [2, 2, 2] wx.heap.size (wx.alloc (.cells #[.int .i64 2, .int .i64 2, .int .i64 2] 3)) (by simp) (by omega) (by decide) (by decide) (wid_222 wx)
    have c3 : ∀ wx, _ := fun wx => dat_skip p3 wx hq3
    rw [hp3] at c3
    have hq4 : (strOfNums (skipL ((zs s).drop 19))).size ≤ 140737488351232 := by
      rw [str_size]
      have h1 := skipL_len ((zs s).drop 19)
      rw [List.length_drop, zs_length] at h1
      omega
    have c4 : ∀ wx, _ := fun wx => dat_offset (strOfNums (skipL ((zs s).drop 19))) wx hq4
    have hbytes : ∀ x ∈ skipL ((zs s).drop 19), 0 ≤ x ∧ x < 256 := by
      intro x hx
      refine zs_bytes s x ?_
      unfold skipL at hx
      split at hx
      · exact List.mem_of_mem_drop (List.mem_of_mem_drop hx)
      · exact List.mem_of_mem_drop hx
    rw [zs_str _ hbytes] at c4
    have hob := offW_bd (skipL ((zs s).drop 19))
    rw [hp1] at cG1
    rw [hp2] at cG2
    have K0 : ∀ p, parseL (zs s) = p → parseL (zs s) = p := fun _ h => h
    generalize strOfNums (skipL ((zs s).drop 19)) = q3 at *
    clear hp1 hp2 hp3 hq3 hq4 hbytes
    have hT1 : ∀ {w1 w2 w3 w4 : World} {o1 o2 : Obj}, Below (w.alloc o1).heap.size (w.alloc o1) w1 → Below (w1.alloc o2).heap.size (w1.alloc o2) w2 → Below w2.heap.size w2 w3 → Below w3.heap.size w3 w4 → Below w.heap.size w w4 ∧ Below w1.heap.size w1 w4 ∧ Below w2.heap.size w2 w4 := by
      intro w1 w2 w3 w4 o1 o2 b1 b2 b3 b4
      have e1 : Below w.heap.size w w1 := ((Below.refl _ _).alloc (Nat.le_refl _) _).trans (b1.mono (by simp))
      have e2 : Below w1.heap.size w1 w2 := ((Below.refl _ _).alloc (Nat.le_refl _) _).trans (b2.mono (by simp))
      have e3 : Below w2.heap.size w2 w4 := b3.trans (b4.mono b3.size)
      have e4 : Below w1.heap.size w1 w4 := e2.trans (e3.mono e2.size)
      exact ⟨e1.trans (e4.mono e1.size), e4, e3⟩
    rcases hd : (grp 45 true [4, 2, 2] ((zs s).take 10)).2 with _ | _
    · have HS := Lib.hid (date_no hd)
      rw [hd] at cG1
      clear hd K0 hob
      generalize grp 58 true [2, 2, 2] (((zs s).take 19).drop 11) = G2 at *
      generalize grp 45 true [4, 2, 2] ((zs s).take 10) = G1 at *
      generalize offW (skipL ((zs s).drop 19)) = O at *
      obtain ⟨g2, k2⟩ := G2
      obtain ⟨o1, o2⟩ := O
      simp only at cG2 c4
      rcases hcc with rfl | rfl
      all_goals
        go_enter Tryd.func31, Tryd.ntmps31
        go_wp2_with fail
        refine cG1.mono ?_
        rintro e w1 ⟨⟨v1, rfl, hv1⟩, b1⟩
        go_wp2_with fail
        refine (cG2 _).mono ?_
        rintro e w2 ⟨⟨v2, rfl, hv2⟩, b2⟩
        go_wp2_with fail
        refine (c3 _).mono ?_
        rintro e w3 ⟨rfl, b3⟩
        go_wp2_with fail
        refine (c4 _).mono ?_
        rintro e w4 ⟨rfl, b4⟩
        obtain ⟨t1, t2, t3⟩ := hT1 b1 b2 b3 b4
        go_wp2
        go_ret2
        exact ⟨retP HS.out, t1⟩
    rcases hk : (grp 58 true [2, 2, 2] (((zs s).take 19).drop 11)).2 with _ | _
    · have HS := Lib.hid (clock_no hk)
      rw [hd] at cG1
      rw [hk] at cG2
      clear hd hk K0 hob
      generalize grp 58 true [2, 2, 2] (((zs s).take 19).drop 11) = G2 at *
      generalize grp 45 true [4, 2, 2] ((zs s).take 10) = G1 at *
      generalize offW (skipL ((zs s).drop 19)) = O at *
      obtain ⟨o1, o2⟩ := O
      simp only at c4
      rcases hcc with rfl | rfl
      all_goals
        go_enter Tryd.func31, Tryd.ntmps31
        go_wp2_with fail
        refine cG1.mono ?_
        rintro e w1 ⟨⟨v1, rfl, hv1⟩, b1⟩
        go_wp2_with fail
        refine (cG2 _).mono ?_
        rintro e w2 ⟨⟨v2, rfl, hv2⟩, b2⟩
        go_wp2_with fail
        refine (c3 _).mono ?_
        rintro e w3 ⟨rfl, b3⟩
        go_wp2_with fail
        refine (c4 _).mono ?_
        rintro e w4 ⟨rfl, b4⟩
        obtain ⟨t1, t2, t3⟩ := hT1 b1 b2 b3 b4
        go_wp2
        go_ret2
        exact ⟨retP HS.out, t1⟩
    rcases ho : (offW (skipL ((zs s).drop 19))).2 with _ | _
    · have HS := Lib.hid (off_no ho)
      rw [hd] at cG1
      rw [hk] at cG2
      rw [ho] at c4
      clear hd hk ho K0 hob
      generalize grp 58 true [2, 2, 2] (((zs s).take 19).drop 11) = G2 at *
      generalize grp 45 true [4, 2, 2] ((zs s).take 10) = G1 at *
      generalize (offW (skipL ((zs s).drop 19))).1 = o1 at *
      rcases hcc with rfl | rfl
      all_goals
        go_enter Tryd.func31, Tryd.ntmps31
        go_wp2_with fail
        refine cG1.mono ?_
        rintro e w1 ⟨⟨v1, rfl, hv1⟩, b1⟩
        go_wp2_with fail
        refine (cG2 _).mono ?_
        rintro e w2 ⟨⟨v2, rfl, hv2⟩, b2⟩
        go_wp2_with fail
        refine (c3 _).mono ?_
        rintro e w3 ⟨rfl, b3⟩
        go_wp2_with fail
        refine (c4 _).mono ?_
        rintro e w4 ⟨rfl, b4⟩
        obtain ⟨t1, t2, t3⟩ := hT1 b1 b2 b3 b4
        go_wp2
        go_ret2
        exact ⟨retP HS.out, t1⟩
    have e1 := (date_yes hd).1
    have e2 := (clock_yes hk).1
    rw [hd, e1] at cG1
    rw [hk, e2] at cG2
    rw [ho] at c4
    have hA := all_yes hd hk (by rw [hch]; exact hcc) ho
    have hN := sec_no (l := zs s)
    have hsec : secL (zs s) = secV _ _ _ _ _ _ := rfl
    have c5 : ∀ wx, CivT wx → _ := fun wx ht => civ_Seconds (numL (zs s) 0 4) (numL (zs s) 5 2) (numL (zs s) 8 2) (numL (zs s) 11 2) (numL (zs s) 14 2) (numL (zs s) 17 2) wx ht
    have hsb := secV_bd (numL (zs s) 0 4) (numL (zs s) 5 2) (numL (zs s) 8 2) (numL (zs s) 11 2) (numL (zs s) 14 2) (numL (zs s) 17 2)
    rw [hsec] at hA hN
    generalize secV (numL (zs s) 0 4) (numL (zs s) 5 2) (numL (zs s) 8 2) (numL (zs s) 11 2) (numL (zs s) 14 2) (numL (zs s) 17 2) = V at *
    generalize numL (zs s) 0 4 = n1 at *
    generalize numL (zs s) 5 2 = n2 at *
    generalize numL (zs s) 8 2 = n3 at *
    generalize numL (zs s) 11 2 = n4 at *
    generalize numL (zs s) 14 2 = n5 at *
    generalize numL (zs s) 17 2 = n6 at *
    generalize (offW (skipL ((zs s).drop 19))).1 = o1 at *
    obtain ⟨x1, x2⟩ := V
    simp only at hA hN c5 hsb
    clear hd hk ho e1 e2 hsec
    have HA := Lib.hid hA
    have HN := Lib.hid hN
    have HB := Lib.hid hsb
    clear hA hN hsb K0
    rcases hcc with rfl | rfl
    all_goals
      go_enter Tryd.func31, Tryd.ntmps31
      go_wp2_with fail
      refine cG1.mono ?_
      rintro e w1 ⟨⟨v1, rfl, hv1⟩, b1⟩
      go_wp2_with fail
      refine (cG2 _).mono ?_
      rintro e w2 ⟨⟨v2, rfl, hv2⟩, b2⟩
      go_wp2_with fail
      refine (c3 _).mono ?_
      rintro e w3 ⟨rfl, b3⟩
      go_wp2_with fail
      refine (c4 _).mono ?_
      rintro e w4 ⟨rfl, b4⟩
      obtain ⟨t1, t2, t3⟩ := hT1 b1 b2 b3 b4
      obtain ⟨p, cp, hpl, rfl, k0, k1, k2⟩ := own_three (hv1 trivial)
      obtain ⟨r, cr, hrl, rfl, l0, l1, l2⟩ := own_three (hv2 trivial)
      have k0 := (t2.cell (p := ⟨p, 0, none⟩) hpl).trans k0
      have k1 := (t2.cell (p := ⟨p, 1, none⟩) hpl).trans k1
      have k2 := (t2.cell (p := ⟨p, 2, none⟩) hpl).trans k2
      have l0 := (t3.cell (p := ⟨r, 0, none⟩) hrl).trans l0
      have l1 := (t3.cell (p := ⟨r, 1, none⟩) hrl).trans l1
      have l2 := (t3.cell (p := ⟨r, 2, none⟩) hrl).trans l2
      have hTc : CivT w4 := CivT_below hT.1 t1
      clear hv1 hv2 cG1 cG2 c3 c4 b1 b2 b3 b4 hsl1 hsl2 hsl3 t2 t3
      have hTd : CivT w4.drew := CivT_below hTc (Below.refl _ _).drew
      have kS : ∀ w5, Below w4.drew.heap.size w4.drew w5 → w5.cell? ⟨p, 0, none⟩ = some (.int .i64 n1) ∧ w5.cell? ⟨p, 1, none⟩ = some (.int .i64 n2) ∧ w5.cell? ⟨p, 2, none⟩ = some (.int .i64 n3) ∧ w5.cell? ⟨r, 0, none⟩ = some (.int .i64 n4) ∧ w5.cell? ⟨r, 1, none⟩ = some (.int .i64 n5) ∧ w5.cell? ⟨r, 2, none⟩ = some (.int .i64 n6) := fun w5 b5 =>
        ⟨(b5.cell (p := ⟨p, 0, none⟩) (civ_block_lt k0)).trans k0, (b5.cell (p := ⟨p, 1, none⟩) (civ_block_lt k1)).trans k1, (b5.cell (p := ⟨p, 2, none⟩) (civ_block_lt k2)).trans k2, (b5.cell (p := ⟨r, 0, none⟩) (civ_block_lt l0)).trans l0, (b5.cell (p := ⟨r, 1, none⟩) (civ_block_lt l1)).trans l1, (b5.cell (p := ⟨r, 2, none⟩) (civ_block_lt l2)).trans l2⟩
      go_wp2
      go_region_held3 (fun w' => w'.cell? ⟨p, 0, none⟩ = some (.int .i64 n1) ∧ w'.cell? ⟨p, 1, none⟩ = some (.int .i64 n2) ∧ w'.cell? ⟨p, 2, none⟩ = some (.int .i64 n3) ∧ w'.cell? ⟨r, 0, none⟩ = some (.int .i64 n4) ∧ w'.cell? ⟨r, 1, none⟩ = some (.int .i64 n5) ∧ w'.cell? ⟨r, 2, none⟩ = some (.int .i64 n6)) (first | exact ⟨k0, k1, k2, l0, l1, l2⟩ | exact hS5) (first | (go_at_call 60; refine (c5 w4.drew hTd).mono ?_; rintro e w5 ⟨rfl, b5⟩; have hS5 := kS w5 b5))
      have tE : Below w.heap.size w w5 := t1.trans ((((Below.refl w4.heap.size w4).drew).trans b5).mono t1.size)
      clear hS5 kS hTd hTc c5 b5 t1 k0 k1 k2 l0 l1 l2 hpl hrl
      rcases (by omega : x2 ≠ 0 ∨ x2 = 0) with h0 | rfl
      · have HS := Lib.hid (HN.out h0)
        have hne : (x2 != 0) = true := by simp [h0]
        clear HA HN HB h0
        go_wp2
        go_ret2
        exact ⟨retP HS.out, tE⟩
      · have hx := HB.out rfl
        obtain ⟨hx1, hx2⟩ := hx
        have hp1 := HA.out rfl
        clear HA HN HB
        rcases (by omega : x1 - o1 < -62135596800 ∨ (-62135596800 ≤ x1 - o1 ∧ 253402300799 < x1 - o1) ∨ (-62135596800 ≤ x1 - o1 ∧ x1 - o1 ≤ 253402300799)) with g | ⟨g1, g2⟩ | ⟨g1, g2⟩
        · rw [show inTime (x1 - o1) = false from decide_eq_false (by omega)] at hp1
          have HP := Lib.hid (hp1.trans (if_neg (by decide)))
          clear hp1
          go_wp2
          go_ret2
          exact ⟨retP HP.out, tE⟩
        · rw [show inTime (x1 - o1) = false from decide_eq_false (by omega)] at hp1
          have HP := Lib.hid (hp1.trans (if_neg (by decide)))
          clear hp1
          go_wp2
          go_ret2
          exact ⟨retP HP.out, tE⟩
        · rw [show inTime (x1 - o1) = true from decide_eq_true ⟨g1, g2⟩] at hp1
          have HP := Lib.hid (hp1.trans (if_pos rfl))
          clear hp1
          go_wp2
          go_ret2
          exact ⟨retP HP.out, tE⟩
  · have HS := Lib.hid (t_no (l := zs s) (by rw [hch]; omega) (by rw [hch]; omega))
    have hne : (c0 != 84) = true := by simp; omega
    have hne2 : (c0 != 116) = true := by simp; omega
    clear hch hcc
    go_enter Tryd.func31, Tryd.ntmps31
    go_wp2
    go_ret2
    exact ⟨retP HS.out, Below.refl _ _⟩
end Go.Proofs.YtdbpkggjnmapiaaDoor
