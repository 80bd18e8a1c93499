/- Package rfc3339: skipFraction and offset: what each returns. -/
import Derived.Test.YtdbpkggjnmapiaaDoorDatJ
import Derived.Test.YtdbpkggjnmapiaaDoorDatC
import Derived.Shelf.Strings.SlTrimAscii
import Derived.Deep.QuietTactic
import Derived.BigQuiet
namespace Go.Proofs.YtdbpkggjnmapiaaDoor
open Go.RowKit

theorem dat_TrimLeft (t : ByteArray) (w : World) : Calls Tryd.prog 80 #[.string t, .string digCut] w fun e w' => e = .returned (.string ⟨(Lib.trimLeftS t.data.toList digCut.data.toList).toArray⟩) ∧ Below w.heap.size w w' :=
  Any.strings_TrimLeft_laid Tryd.lays161 (by kernel_rfl) t digCut w (by decide) (ascii_of_all (by decide))
set_option maxHeartbeats 2000000 in
theorem dat_skip (s : ByteArray) (w : World) (hs : s.size ≤ 140737488351232) :
    Calls Tryd.prog 59 #[.string s] w fun e w' => e = .returned (.string (strOfNums (skipL (zs s)))) ∧ Below w.heap.size w w' := by
  rcases Nat.eq_zero_or_pos s.size with h0 | h0
  · obtain rfl := zs_empty s h0
    have HS := Lib.hid (show (⟨#[]⟩ : ByteArray) = strOfNums (skipL (zs ⟨#[]⟩)) from rfl)
    clear h0 hs
    go_enter Tryd.func59, Tryd.ntmps59
    go_wp2
    go_ret
    exact ⟨retS1 HS.out, Below.refl _ _⟩
  · have he := not_isEmpty s h0
    obtain ⟨y, hy⟩ : ∃ y, s[0]'h0 = y := ⟨_, rfl⟩
    have hch := ch_at s 0 h0
    rw [hy] at hch
    generalize hyc : (y.toNat : Int) = c0 at *
    by_cases hcc : c0 = 46
    · subst hcc
      obtain ⟨m, hmr⟩ : ∃ m, m = s.extract 1 s.size := ⟨_, rfl⟩
      have hm : zs m = (zs s).drop 1 := by rw [hmr, zs_extract]; exact List.take_of_length_le (by simp [zs_length])
      have hsl : ∀ wx, _ := fun wx => slice_from s 1 (by omega) (by omega) wx
      rw [show (1 : Int).toNat = 1 from rfl, ← hmr] at hsl
      have c1 : ∀ wx, _ := fun wx => dat_TrimLeft m wx
      obtain ⟨q, hq⟩ : ∃ q, q = (⟨(Lib.trimLeftS m.data.toList digCut.data.toList).toArray⟩ : ByteArray) := ⟨_, rfl⟩
      have hqz : zs q = (zs m).drop (digs (zs m)) := by rw [hq, trim_zs]
      rw [← hq] at c1
      have hqs : q.size + digs (zs m) = s.size - 1 := by
        have h1 := congrArg List.length hqz
        have h2 := congrArg List.length hm
        have h3 := digs_le (zs m)
        rw [zs_length, List.length_drop] at h1 h2
        rw [zs_length] at h2
        rw [zs_length] at h1 h3
        omega
      clear hmr hq
      rcases Nat.eq_zero_or_pos (digs (zs m)) with hd | hd
      · have HS := Lib.hid (show s = strOfNums (skipL (zs s)) by unfold skipL; rw [← hm, if_neg (by omega), str_zs])
        have hlen : (q.size : Int) = (s.size : Int) - 1 := by omega
        have hlt : (q.size : Int) ≤ 140737488351232 := by omega
        clear hqs hd hm hqz hch
        go_enter Tryd.func59, Tryd.ntmps59
        go_wp2_with fail
        refine (c1 _).mono ?_
        rintro e w1 ⟨rfl, b1⟩
        go_wp2
        go_ret
        exact ⟨retS1 HS.out, b1⟩
      · have HS := Lib.hid (show q = strOfNums (skipL (zs s)) by
          unfold skipL
          rw [← hm, if_pos ⟨hch, hd⟩, ← str_zs q, hqz, hm, List.drop_drop])
        have hlen : (q.size : Int) < (s.size : Int) - 1 := by omega
        have hlt : (q.size : Int) ≤ 140737488351232 := by omega
        clear hqs hd hm hqz hch
        go_enter Tryd.func59, Tryd.ntmps59
        go_wp2_with fail
        refine (c1 _).mono ?_
        rintro e w1 ⟨rfl, b1⟩
        go_wp2
        go_ret
        exact ⟨retS1 HS.out, b1⟩
    · have HS := Lib.hid (show s = strOfNums (skipL (zs s)) by unfold skipL; rw [if_neg (by omega), str_zs])
      have hne : (c0 != 46) = true := by simp [hcc]
      clear hch hcc
      go_enter Tryd.func59, Tryd.ntmps59
      go_wp2
      go_ret
      exact ⟨retS1 HS.out, Below.refl _ _⟩
theorem retOff {a a' : Int} {b b' : Bool} (h : (a', b') = (a, b)) : Ending.returned (.tuple #[.int .i64 a, .bool b]) = .returned (.tuple #[.int .i64 a', .bool b']) := by cases h; rfl
theorem own_two {w : World} {base : Nat} {v : Value} {x y : Int} (h : w.ownsRow base 3 1 v 2 (ints [x, y])) :
    ∃ p c, v = .slice (some ⟨p, 0, none⟩) 2 c ∧ w.cell? ⟨p, 0, none⟩ = some (.int .i64 x) ∧ w.cell? ⟨p, 1, none⟩ = some (.int .i64 y) := by
  have hc := fun g => h.cells (g := g)
  rcases h.2 with ⟨_, h0⟩ | ⟨g, cap, cur, rfl, _⟩
  · cases h0
  · have c0 := hc g rfl 0 _ rfl
    have c1 := hc g rfl 1 _ rfl
    rw [addr_add] at c0 c1
    exact ⟨g, cap, rfl, c0, c1⟩
theorem zs_one (s : ByteArray) (c : Int) (hc : 0 ≤ c ∧ c < 256) (h : ¬ zs s = [c]) : ¬ s.toList = [UInt8.ofNat c.toNat] := by
  intro h1
  apply h
  unfold zs
  rw [← ByteArray.toList_eq, h1]
  simp only [List.map_cons, List.map_nil, UInt8.toNat_ofNat']
  congr 1; omega
theorem offW_rest {l : List Int} {G : List Int × Bool} (h1 : ¬ l = [90]) (h2 : ¬ l = [122]) (hG : grp 58 true [2, 2] (l.drop 1) = G) :
    offW l = if (ch l 0 = 43 ∨ ch l 0 = 45) ∧ G.2 = true ∧ G.1.getD 0 0 ≤ 23 ∧ G.1.getD 1 0 ≤ 59 then (if ch l 0 = 45 then -((G.1.getD 0 0 * 60 + G.1.getD 1 0) * 60) else (G.1.getD 0 0 * 60 + G.1.getD 1 0) * 60, true) else (0, false) := by
  subst hG
  unfold offW
  rw [if_neg (by rintro (h | h) <;> contradiction)]
set_option maxHeartbeats 4000000 in
theorem dat_offset (s : ByteArray) (w : World) (hs : s.size ≤ 140737488351232) :
    Calls Tryd.prog 58 #[.string s] w fun e w' => e = .returned (.tuple #[.int .i64 (offW (zs s)).1, .bool (offW (zs s)).2]) ∧ Below w.heap.size w w' := by
  by_cases hz1 : zs s = [90]
  · obtain rfl : s = ⟨#[90]⟩ := by rw [← str_zs s, hz1]; rfl
    have HS := Lib.hid (show offW (zs ⟨#[90]⟩) = (0, true) from rfl)
    clear hz1
    go_enter Tryd.func58, Tryd.ntmps58
    go_wp2
    go_ret2
    exact ⟨retOff HS.out, Below.refl _ _⟩
  by_cases hz2 : zs s = [122]
  · obtain rfl : s = ⟨#[122]⟩ := by rw [← str_zs s, hz2]; rfl
    have HS := Lib.hid (show offW (zs ⟨#[122]⟩) = (0, true) from rfl)
    clear hz1 hz2
    go_enter Tryd.func58, Tryd.ntmps58
    go_wp2
    go_ret2
    exact ⟨retOff HS.out, Below.refl _ _⟩
  have n1 : ¬ s.toList = [90] := zs_one s 90 (by omega) hz1
  have n2 : ¬ s.toList = [122] := zs_one s 122 (by omega) hz2
  have e1 : (s.toList == [90]) = false := beq_eq_false_iff_ne.2 n1
  have e2 : (s.toList == [122]) = false := beq_eq_false_iff_ne.2 n2
  have hW := offW_rest hz1 hz2 rfl
  clear hz1 hz2
  rcases Nat.eq_zero_or_pos s.size with h0 | h0
  · obtain rfl := zs_empty s h0
    rw [if_neg (by rintro ⟨h | h, _⟩ <;> cases h)] at hW
    have HS := Lib.hid hW
    clear h0 hs n1 n2 e1 e2 hW
    go_enter Tryd.func58, Tryd.ntmps58
    go_wp2
    go_ret2
    exact ⟨retOff HS.out, Below.refl _ _⟩
  have he := not_isEmpty s h0
  obtain ⟨y, hy⟩ : ∃ y, s[0]'h0 = y := ⟨_, rfl⟩
  have hch := ch_at s 0 h0
  rw [hy] at hch
  generalize hyc : (y.toNat : Int) = c0 at *
  by_cases hcc : c0 = 43 ∨ c0 = 45
  · obtain ⟨m, hmr⟩ : ∃ m, m = s.extract 1 s.size := ⟨_, rfl⟩
    have hm : zs m = (zs s).drop 1 := by rw [hmr, zs_extract]; exact List.take_of_length_le (by simp [zs_length])
    have hsl : ∀ wx, _ := fun wx => slice_from s 1 (by omega) (by omega) wx
    rw [show (1 : Int).toNat = 1 from rfl, ← hmr] at hsl
    have cG := dat_groups m 58 [2, 2] w.heap.size (w.alloc (.cells #[.int .i64 2, .int .i64 2] 3)) (by simp) (by omega) (by decide) (by decide) (fun j hj => by
      rw [World.cell?_alloc_at _ _ _ _ rfl]
      match j, hj with
      | 0, _ => rfl
      | 1, _ => rfl)
    rw [hch, ← hm] at hW
    rcases hG : (grp 58 true [2, 2] (zs m)).2 with _ | _
    · rw [hG] at cG hW
      rw [if_neg (by rintro ⟨_, h, _⟩; cases h)] at hW
      have HS := Lib.hid hW
      clear hW hG hm hmr hch n1 n2
      generalize grp 58 true [2, 2] (zs m) = G at *
      rcases hcc with rfl | rfl
      all_goals
        go_enter Tryd.func58, Tryd.ntmps58
        go_wp2_with fail
        refine cG.mono ?_
        rintro e w1 ⟨⟨v, rfl, _⟩, b1⟩
        go_wp2
        go_ret2
        exact ⟨retOff HS.out, ((Below.refl _ _).alloc (Nat.le_refl _) _).trans (b1.mono (by simp))⟩
    · obtain ⟨gE, gH, _, gM, _⟩ := grp22_yes (i := 0) (l := zs m) (sep := 58) (by rw [List.drop_zero]; exact hG)
      rw [List.drop_zero] at gE
      have bH := (numL_bd (zs m) 0 2).2
      have bM := (numL_bd (zs m) (0 + 3) 2).2
      simp only [show (10 : Int) ^ 2 = 100 from rfl] at bH bM
      generalize numL (zs m) 0 2 = H at *
      generalize numL (zs m) (0 + 3) 2 = M at *
      rw [gE] at cG hW
      simp only [List.getD_cons_zero, List.getD_cons_succ] at hW
      clear hG gE hm hmr hch n1 n2
      have HW := Lib.hid hW
      clear hW
      rcases hcc with rfl | rfl
      all_goals
        go_enter Tryd.func58, Tryd.ntmps58
        go_wp2_with fail
        refine cG.mono ?_
        rintro e w1 ⟨⟨v, rfl, hv⟩, b1⟩
        obtain ⟨p, c, rfl, k0, k1⟩ := own_two (hv trivial)
        clear cG hv
        rcases (by omega : 23 < H ∨ (H ≤ 23 ∧ 59 < M) ∨ (H ≤ 23 ∧ M ≤ 59)) with g | ⟨g1, g2⟩ | ⟨g1, g2⟩
        · have HS := Lib.hid (HW.out.trans (if_neg (by rintro ⟨_, _, h, _⟩; omega)))
          clear HW
          go_wp2
          go_ret2
          exact ⟨retOff HS.out, ((Below.refl _ _).alloc (Nat.le_refl _) _).trans (b1.mono (by simp))⟩
        · have HS := Lib.hid (HW.out.trans (if_neg (by rintro ⟨_, _, _, h⟩; omega)))
          clear HW
          go_wp2
          go_ret2
          exact ⟨retOff HS.out, ((Below.refl _ _).alloc (Nat.le_refl _) _).trans (b1.mono (by simp))⟩
        · have HS := Lib.hid (HW.out.trans (if_pos ⟨by decide, trivial, g1, g2⟩))
          clear HW
          go_wp2
          go_quiet (fail)
          go_wp2
          go_ret2
          exact ⟨retOff (HS.out.trans (by rfl)), (((Below.refl _ _).alloc (Nat.le_refl _) _).trans (b1.mono (by simp))).trans (below_drewN (Below.refl _ _) _)⟩
  · rw [if_neg (by rw [hch]; exact fun h => hcc h.1)] at hW
    have hne : (c0 != 43) = true := by simp; omega
    have hne2 : (c0 != 45) = true := by simp; omega
    have HS := Lib.hid hW
    clear hch hcc hW n1 n2
    go_enter Tryd.func58, Tryd.ntmps58
    go_wp2
    go_ret2
    exact ⟨retOff HS.out, Below.refl _ _⟩
end Go.Proofs.YtdbpkggjnmapiaaDoor
