/- The reference of layer 4: zone. -/
import Derived.Test.YtdbpkggjnmapiaaDoorRfcB
import Derived.Test.YtdbpkggjnmapiaaDoorRfcD
import Derived.Deep.RegionWith
namespace Go.Proofs.YtdbpkggjnmapiaaDoor
open Go.RowKit

/-- The names of zones, in lower case, and their hours. -/
def zoneN (k : Nat) : List UInt8 := #[[117, 116], [117, 116, 99], [103, 109, 116], [122], [101, 115, 116], [101, 100, 116], [99, 115, 116], [99, 100, 116], [109, 115, 116], [109, 100, 116], [112, 115, 116], [112, 100, 116]].getD k []
def zoneH (k : Nat) : Int := #[0, 0, 0, 0, -5, -4, -6, -5, -7, -6, -8, -7].getD k 0
/-- The zone from a name on, with a bound on the number of steps: its minutes, and whether there is one. -/
def zoneF (l : List UInt8) : Nat → Nat → Option Int
  | 0, _ => none
  | f + 1, k => if l == zoneN k then some (60 * zoneH k) else zoneF l f (k + 1)
def zoneNum (l : List Int) : Int × Bool :=
  if l.length == 5 && (ch l 0 == 43 || ch l 0 == 45) && decide (0 ≤ numL l 1 2 ∧ numL l 1 2 ≤ 23) && decide (0 ≤ numL l 3 2 ∧ numL l 3 2 ≤ 59) then
    (if ch l 0 == 45 then -60 * numL l 1 2 - numL l 3 2 else 60 * numL l 1 2 + numL l 3 2, true)
  else (0, false)
def zoneV (s : ByteArray) : Int × Bool := match zoneF (s.data.toList.map low8) 12 0 with
  | some z => (z, true)
  | none => zoneNum (zs s)

def zoneW (w : World) : World := (w.alloc (.cells #[.string ⟨#[117, 116]⟩, .string ⟨#[117, 116, 99]⟩, .string ⟨#[103, 109, 116]⟩, .string ⟨#[122]⟩, .string ⟨#[101, 115, 116]⟩, .string ⟨#[101, 100, 116]⟩, .string ⟨#[99, 115, 116]⟩, .string ⟨#[99, 100, 116]⟩, .string ⟨#[109, 115, 116]⟩, .string ⟨#[109, 100, 116]⟩, .string ⟨#[112, 115, 116]⟩, .string ⟨#[112, 100, 116]⟩] 49)).alloc (.cells #[.int .i64 0, .int .i64 0, .int .i64 0, .int .i64 0, .int .i64 (-5), .int .i64 (-4), .int .i64 (-6), .int .i64 (-5), .int .i64 (-7), .int .i64 (-6), .int .i64 (-8), .int .i64 (-7)] 90)
theorem zoneW_eq (w : World) : (w.alloc (.cells #[.string ⟨#[117, 116]⟩, .string ⟨#[117, 116, 99]⟩, .string ⟨#[103, 109, 116]⟩, .string ⟨#[122]⟩, .string ⟨#[101, 115, 116]⟩, .string ⟨#[101, 100, 116]⟩, .string ⟨#[99, 115, 116]⟩, .string ⟨#[99, 100, 116]⟩, .string ⟨#[109, 115, 116]⟩, .string ⟨#[109, 100, 116]⟩, .string ⟨#[112, 115, 116]⟩, .string ⟨#[112, 100, 116]⟩] 49)).alloc (.cells #[.int .i64 0, .int .i64 0, .int .i64 0, .int .i64 0, .int .i64 (-5), .int .i64 (-4), .int .i64 (-6), .int .i64 (-5), .int .i64 (-7), .int .i64 (-6), .int .i64 (-8), .int .i64 (-7)] 90) = zoneW w := rfl
theorem zoneW_size (w : World) : (zoneW w).heap.size = w.heap.size + 2 := by simp [zoneW]
theorem zoneW_below (w : World) : Below w.heap.size w (zoneW w) := ((Below.refl _ _).alloc (Nat.le_refl _) _).alloc (by simp) _
theorem zoneW_name (w : World) (k : Nat) (h : k < 12) : (zoneW w).cell? ⟨w.heap.size, k, none⟩ = some (.string (ofBytes (zoneN k))) := by
  rcases (by omega : k = 0 ∨ k = 1 ∨ k = 2 ∨ k = 3 ∨ k = 4 ∨ k = 5 ∨ k = 6 ∨ k = 7 ∨ k = 8 ∨ k = 9 ∨ k = 10 ∨ k = 11) with rfl | rfl | rfl | rfl | rfl | rfl | rfl | rfl | rfl | rfl | rfl | rfl
  all_goals (simp [zoneW, zoneN, ofBytes])
theorem zoneW_hour (w : World) (k : Nat) (h : k < 12) : (zoneW w).cell? ⟨w.heap.size + 1, k, none⟩ = some (.int .i64 (zoneH k)) := by
  rcases (by omega : k = 0 ∨ k = 1 ∨ k = 2 ∨ k = 3 ∨ k = 4 ∨ k = 5 ∨ k = 6 ∨ k = 7 ∨ k = 8 ∨ k = 9 ∨ k = 10 ∨ k = 11) with rfl | rfl | rfl | rfl | rfl | rfl | rfl | rfl | rfl | rfl | rfl | rfl
  all_goals (simp [zoneW, zoneH])
theorem zoneH_bd (k : Nat) : -8 ≤ zoneH k ∧ zoneH k ≤ 0 := by
  by_cases h : k < 12
  · have : ∀ k : Fin 12, -8 ≤ zoneH k.val ∧ zoneH k.val ≤ 0 := by decide
    exact this ⟨k, h⟩
  · have : zoneH k = 0 := by unfold zoneH; rw [Array.getD_eq_getD_getElem?, Array.getElem?_eq_none (by simpa using h)]; rfl
    omega

theorem zoneF_at (l : List UInt8) (k : Nat) (h : k < 12) : zoneF l (12 - k) k = if l == zoneN k then some (60 * zoneH k) else zoneF l (12 - (k + 1)) (k + 1) := by
  rw [show 12 - k = (12 - (k + 1)) + 1 by omega, zoneF]
theorem retPB {j : IntKind} {p : Int × Bool} {a : Int} {b : Bool} (h : p = (a, b)) : Ending.returned (.tuple #[.int j a, .bool b]) = .returned (.tuple #[.int j p.1, .bool p.2]) := by rw [h]
theorem zoneNum_bd (l : List Int) : -1439 ≤ (zoneNum l).1 ∧ (zoneNum l).1 ≤ 1439 := by
  unfold zoneNum
  split
  · rename_i h
    simp only [Bool.and_eq_true, decide_eq_true_eq] at h
    simp only
    split <;> omega
  · simp

set_option maxRecDepth 100000 in
set_option maxHeartbeats 4000000 in
theorem rref_zone (s : ByteArray) (w : World) (hs : s.size ≤ 70368744177664) :
    Calls Tryd.prog 37 #[.string s] w fun e w' => e = .returned (.tuple #[.int .i64 (zoneV s).1, .bool (zoneV s).2]) ∧ Below w.heap.size w w' := by
  have c1 : ∀ wx, _ := fun wx => rref_Lower s wx hs
  have hqs : ∀ k, _ := fun k => ob_eq (s.data.toList.map low8) (zoneN k)
  have hzv : zoneV s = match zoneF (s.data.toList.map low8) 12 0 with
    | some z => (z, true)
    | none => zoneNum (zs s) := rfl
  have HZ := Lib.hid hzv
  clear hzv
  have zw1 := zoneW_name w
  have zw2 := zoneW_hour w
  have zw3 := zoneW_size w
  have zw4 := zoneW_below w
  generalize hlow : s.data.toList.map low8 = low at *
  clear hlow
  go_enter Tryd.func37, Tryd.ntmps37
  go_wp2
  rw [zoneW_eq]
  generalize zoneW w = W0 at *
  go_loopw [6] (fun i wr => ∃ k : Nat, k ≤ 12 ∧ i = .int .i64 k ∧ zoneF low 12 0 = zoneF low (12 - k) k ∧ Below W0.heap.size W0 wr) (fun i _ => 12 - (intOf i).toNat)
  case atStart => exact ⟨0, by omega, rfl, rfl, Below.refl _ _⟩
  case round =>
    obtain ⟨k, hk, rfl, hf, hbel⟩ := hrel
    have hz := hbel.size
    by_cases hlt : k < 12
    · have e1 := (hbel.cell (p := ⟨w.heap.size, k, none⟩) (by simp; omega)).trans (zw1 k hlt)
      have e2 := (hbel.cell (p := ⟨w.heap.size + 1, k, none⟩) (by simp; omega)).trans (zw2 k hlt)
      have hq := hqs k
      have hb8 := zoneH_bd k
      rw [zoneF_at low k hlt] at hf
      have hk12 : (k : Int) < 12 := by omega
      generalize ofBytes low = L at *
      generalize ofBytes (zoneN k) = z at *
      generalize zoneH k = h at *
      clear zw1 zw2 hqs
      rcases hb : (low == zoneN k) with _ | _
      · rw [hb] at hf hq
        have HF := Lib.hid hf
        clear hf hb
        go_wp2_with fail
        go_region_with (go_at_call 62; refine (c1 _).mono ?_; rintro e w1 ⟨rfl, b1⟩; have ez1 : w1.cell? ⟨w.heap.size, k, none⟩ = some (.string z) := (b1.cell (p := ⟨w.heap.size, k, none⟩) (by simp; omega)).trans (by simpa using e1); have ez2 : w1.cell? ⟨w.heap.size + 1, k, none⟩ = some (.int .i64 h) := (b1.cell (p := ⟨w.heap.size + 1, k, none⟩) (by simp; omega)).trans (by simpa using e2))
        all_goals
          have hb1 : Below W0.heap.size W0 w1 := by first | exact hbel.trans (b1.mono hz) | exact (hbel.drew).trans (b1.mono (by simpa using hz))
          clear b1
          go_wp2
          exact ⟨⟨k + 1, by omega, by go_num, HF.out, by first | exact hb1 | exact hb1.drew⟩, by simp [intOf]; omega⟩
      · rw [hb] at hf hq
        have HF := Lib.hid (show zoneV s = (60 * h, true) by rw [HZ.out, hf]; rfl)
        clear hf hb
        go_wp2_with fail
        go_region_with (go_at_call 62; refine (c1 _).mono ?_; rintro e w1 ⟨rfl, b1⟩; have ez1 : w1.cell? ⟨w.heap.size, k, none⟩ = some (.string z) := (b1.cell (p := ⟨w.heap.size, k, none⟩) (by simp; omega)).trans (by simpa using e1); have ez2 : w1.cell? ⟨w.heap.size + 1, k, none⟩ = some (.int .i64 h) := (b1.cell (p := ⟨w.heap.size + 1, k, none⟩) (by simp; omega)).trans (by simpa using e2))
        all_goals
          have hb1 : Below W0.heap.size W0 w1 := by first | exact hbel.trans (b1.mono hz) | exact (hbel.drew).trans (b1.mono (by simpa using hz))
          clear b1
          go_wp2
          go_ret2
          exact ⟨retPB HF.out, by first | exact zw4.trans (hb1.mono (by omega)) | exact (zw4.trans (hb1.mono (by omega))).drew⟩
    · obtain rfl : k = 12 := by omega
      have c2 : ∀ wx, _ := fun wx => dref_Number s 1 2 wx (by omega) (by omega) (by omega) (by omega) (by omega)
      have c3 : ∀ wx, _ := fun wx => dref_Number s 3 2 wx (by omega) (by omega) (by omega) (by omega) (by omega)
      rw [show (1 : Int).toNat = 1 from rfl, show (2 : Int).toNat = 2 from rfl] at c2
      rw [show (3 : Int).toNat = 3 from rfl, show (2 : Int).toNat = 2 from rfl] at c3
      have hzz : zoneV s = zoneNum (zs s) := by rw [HZ.out, hf, Nat.sub_self]; rfl
      have b2 := numL_bd (zs s) 1 2
      have b3 := numL_bd (zs s) 3 2
      simp only [show (10 : Int) ^ 2 = 100 from rfl] at b2 b3
      have hbw : Below w.heap.size w wr := zw4.trans (hbel.mono (by omega))
      unfold zoneNum at hzz
      rw [zs_length] at hzz
      have hch := ch_at s 0
      generalize numL (zs s) 1 2 = hh at *
      generalize numL (zs s) 3 2 = mm at *
      have stop : ∀ c : Bool, c = false → zoneV s = (if c then (if ch (zs s) 0 == 45 then -60 * hh - mm else 60 * hh + mm, true) else (0, false)) → zoneV s = (0, false) := fun c hc h => by rw [h, hc]; rfl
      clear hf zw1 zw2 hqs c1 HZ
      by_cases h5 : s.size = 5
      · have hn : 0 < s.size := by omega
        have h5z : (s.size : Int) = 5 := by omega
        obtain ⟨x, hx⟩ : ∃ x, s[0]'hn = x := ⟨_, rfl⟩
        have hc0 := hch hn
        rw [hx] at hc0
        rw [hc0] at hzz stop
        clear hch hc0
        generalize hxc : (x.toNat : Int) = c at *
        by_cases hok : (c = 43 ∨ c = 45) ∧ (0 ≤ hh ∧ hh ≤ 23) ∧ (0 ≤ mm ∧ mm ≤ 59)
        · obtain ⟨hcc, ⟨g1, g2⟩, g3, g4⟩ := hok
          have hz2 : zoneV s = (if c == 45 then -60 * hh - mm else 60 * hh + mm, true) := by
            rw [hzz, if_pos (by simp only [Bool.and_eq_true, Bool.or_eq_true, beq_iff_eq, decide_eq_true_eq]; exact ⟨⟨⟨h5, hcc⟩, g1, g2⟩, g3, g4⟩)]
          rcases hcc with rfl | rfl
          · have HZ := Lib.hid (hz2.trans (show _ = (60 * hh + mm, true) from rfl))
            clear hzz hz2 stop h5
            go_wp2_with fail
            refine (c2 _).mono ?_
            rintro e w' ⟨rfl, rfl⟩
            go_wp2_with fail
            refine (c3 _).mono ?_
            rintro e w' ⟨rfl, rfl⟩
            go_wp2
            go_ret2
            exact ⟨retPB HZ.out, hbw⟩
          · have HZ := Lib.hid (hz2.trans (show _ = (-60 * hh - mm, true) from rfl))
            clear hzz hz2 stop h5
            go_wp2_with fail
            refine (c2 _).mono ?_
            rintro e w' ⟨rfl, rfl⟩
            go_wp2_with fail
            refine (c3 _).mono ?_
            rintro e w' ⟨rfl, rfl⟩
            go_wp2
            go_ret2
            exact ⟨retPB HZ.out, hbw⟩
        · have hz2 := stop _ (by
            rw [← Bool.not_eq_true]
            intro hb
            simp only [Bool.and_eq_true, Bool.or_eq_true, beq_iff_eq, decide_eq_true_eq] at hb
            exact hok ⟨hb.1.1.2, hb.1.2, hb.2⟩) hzz
          have HZ := Lib.hid hz2
          clear hzz hz2 stop h5
          by_cases hcc : c = 43 ∨ c = 45
          · by_cases hg : 0 ≤ hh ∧ hh ≤ 23
            · have hm : mm < 0 ∨ (0 ≤ mm ∧ 59 < mm) := by omega
              obtain ⟨g1, g2⟩ := hg
              clear hok
              rcases hcc with rfl | rfl <;> rcases hm with hm | ⟨hm, hm'⟩
              all_goals
                go_wp2_with fail
                refine (c2 _).mono ?_
                rintro e w' ⟨rfl, rfl⟩
                go_wp2_with fail
                refine (c3 _).mono ?_
                rintro e w' ⟨rfl, rfl⟩
                go_wp2
                go_ret2
                exact ⟨retPB HZ.out, hbw⟩
            · have hm : hh < 0 ∨ (0 ≤ hh ∧ 23 < hh) := by omega
              clear hok hg
              rcases hcc with rfl | rfl <;> rcases hm with hm | ⟨hm, hm'⟩
              all_goals
                go_wp2_with fail
                refine (c2 _).mono ?_
                rintro e w' ⟨rfl, rfl⟩
                go_wp2_with fail
                refine (c3 _).mono ?_
                rintro e w' ⟨rfl, rfl⟩
                go_wp2
                go_ret2
                exact ⟨retPB HZ.out, hbw⟩
          · have k1 : (c != 43) = true := by simp; omega
            have k2 : (c != 45) = true := by simp; omega
            clear hok hcc
            go_wp2_with fail
            refine (c2 _).mono ?_
            rintro e w' ⟨rfl, rfl⟩
            go_wp2_with fail
            refine (c3 _).mono ?_
            rintro e w' ⟨rfl, rfl⟩
            go_wp2
            go_ret2
            exact ⟨retPB HZ.out, hbw⟩
      · have hz2 := stop _ (by
          rw [← Bool.not_eq_true]
          intro hb
          simp only [Bool.and_eq_true, beq_iff_eq] at hb
          exact h5 hb.1.1.1) hzz
        have HZ := Lib.hid hz2
        have k1 : ((s.size : Int) != 5) = true := by simp; omega
        clear hzz hz2 stop h5 hch
        go_wp2_with fail
        refine (c2 _).mono ?_
        rintro e w' ⟨rfl, rfl⟩
        go_wp2_with fail
        refine (c3 _).mono ?_
        rintro e w' ⟨rfl, rfl⟩
        go_wp2
        go_ret2
        exact ⟨retPB HZ.out, hbw⟩
end Go.Proofs.YtdbpkggjnmapiaaDoor
