/- Packed from the texts JpA. -/
import Derived.Test.YtdooadalkbghgaaGreatDoorVkG
import Derived.Test.YtdooadalkbghgaaGreatDoorVkK
import Derived.WalkLawsBesides
import Derived.BigQuiet
import Derived.BigGuard
import Derived.Deep.RegionWith
import Derived.Deep.RegionHeld3
import Derived.WalkKit
import Derived.WalkSmall
section
namespace Go.Proofs.YtdooadalkbghgaaGreatDoor
open Go.RowKit
def Psr (w : World) (b : Nat) (s : ByteArray) (i : Int) : Prop := Bj w b #[.string s, .int .i64 i] 57
theorem Psr.c0 {w : World} {b : Nat} {s : ByteArray} {i : Int} (h : Psr w b s i) : w.cell? ⟨b, 0, none⟩ = some (.string s) := Bj.cell h 0
theorem Psr.c1 {w : World} {b : Nat} {s : ByteArray} {i : Int} (h : Psr w b s i) : w.cell? ⟨b, 1, none⟩ = some (.int .i64 i) := Bj.cell h 1
theorem Psr.f1 {w : World} {b : Nat} {s : ByteArray} {i : Int} (h : Psr w b s i) : w.frozen? ⟨b, 1, none⟩ = false := Bj.fr h 1
theorem Psr.lt {w : World} {b : Nat} {s : ByteArray} {i : Int} (h : Psr w b s i) : b < w.heap.size := Bj.lt h
theorem Psr.more {w w' : World} {b : Nat} {s : ByteArray} {i : Int} (h : Psr w b s i) (k : Below w.heap.size w w') : Psr w' b s i := Bj.more h k
theorem Psr.set {w : World} {b : Nat} {s : ByteArray} {i : Int} (h : Psr w b s i) (j : Int) : Psr (w.setCell ⟨b, 1, none⟩ (.int .i64 j)) b s j := by
  have := Bj.set h 1 (.int .i64 j)
  exact this
theorem Psr.drewN {w : World} {b : Nat} {s : ByteArray} {i : Int} (h : Psr w b s i) (n : Nat) : Psr (w.drewN n) b s i := h
abbrev Pb (b : Nat) (w w' : World) : Prop := Pj (fun k => k = b) w w'
theorem Pj.set1 {b : Nat} {a w : World} (h : Pj (fun k => k = b) a w) (v : Value) : Pb b a (w.setCell ⟨b, 1, none⟩ v) := Pj.set h (q := ⟨b, 1, none⟩) (.inl rfl) v
theorem Pj.drewN {X : Nat → Prop} {a w : World} (h : Pj X a w) (n : Nat) : Pj X a (w.drewN n) := h.more ⟨rfl, rfl, rfl, Nat.le_refl _, fun _ _ => rfl⟩
theorem Pj.trans' {X : Nat → Prop} {a c w : World} (h : Pj X a w) (k : Pj X w c) : Pj X a c := h.trans k (fun _ _ y => y)
theorem jbelowN {B : Nat} {a w : World} (h : Below B a w) (n : Nat) : Below B a (w.drewN n) := h.trans ⟨rfl, rfl, rfl, Nat.le_refl _, fun _ _ => rfl⟩
abbrev fltV (a x : Int) : Value := .iface 55 (.agg #[.int .i64 a, .int .i64 x])
abbrev fltE (a x : Int) : Ending := .panicked [{ v := fltV a x, recovered := false }]
theorem jp_fail (a x : Int) (w : World) : Calls Tryz.prog 42 #[.int .i64 a, .int .i64 x] w fun e w' => e = fltE a x ∧ w = w' := by
  go_enter Tryz.func42, Tryz.ntmps42
  go_wp2
  exact ⟨rfl, rfl, rfl⟩
set_option maxRecDepth 100000 in
set_option maxHeartbeats 4000000 in
theorem jp_rest (b : Nat) (s : ByteArray) (i : Nat) (w : World) (hC : Psr w b s i) (hi : i ≤ s.size) :
    Calls Tryz.prog 55 #[.pointer (some ⟨b, 0, none⟩)] w fun e w' => e = .returned (.string (ofBytes (s.data.toList.drop i))) ∧ ∃ n, w' = w.drewN n := by
  have c0 := hC.c0
  have c1 := hC.c1
  have hsl : s.data.toList.length = s.size := by simp
  have hsf : ∀ wx, _ := fun wx => slice_from s (i : Int) (by omega) (by omega) wx
  rw [Int.toNat_natCast, kext, List.take_of_length_le (by rw [List.length_drop]; omega)] at hsf
  clear hC hsl
  generalize ofBytes (s.data.toList.drop i) = R at *
  go_enter Tryz.func55, Tryz.ntmps55
  go_wp2
  go_quiet (fail)
  go_wp2
  go_ret
  exact ⟨rfl, _, rfl⟩
set_option maxRecDepth 100000 in
set_option maxHeartbeats 8000000 in
theorem jp_skipSpace (b : Nat) (s : ByteArray) (i : Nat) (w : World) (hC : Psr w b s i) (hi : i ≤ s.size) (hs : s.size ≤ 1000000) :
    Calls Tryz.prog 41 #[.pointer (some ⟨b, 0, none⟩)] w fun e w' => e = .returned (.tuple #[]) ∧ Psr w' b s (spP s.data.toList i : Nat) ∧ Pb b w w' := by
  have hsl : s.data.toList.length = s.size := by simp
  have HSL := Lib.hid hsl
  clear hsl
  go_enter Tryz.func41, Tryz.ntmps41
  go_wp2
  go_loopw [] (fun wr => ∃ j : Nat, i ≤ j ∧ j ≤ s.size ∧ spP s.data.toList i = spP s.data.toList j ∧ Psr wr b s j ∧ Pb b w wr) (fun wr => s.size - (intOf ((wr.cell? ⟨b, 1, none⟩).getD (.bool false))).toNat)
  case atStart => exact ⟨i, Nat.le_refl _, hi, rfl, hC, Pj.refl _ _⟩
  case round =>
    obtain ⟨j, hij, hj, hrel, hJ, hK⟩ := hrel
    have c0 := hJ.c0
    have c1 := hJ.c1
    have M1 := Lib.hid c1
    by_cases hlt : j < s.size
    · have hjl : j < s.data.toList.length := by have := HSL.out; omega
      have hix := fun wx => jix s .i64 (j : Int) j rfl hlt wx
      obtain ⟨x, hx⟩ : ∃ x, s.data.toList.getD j 0 = x := ⟨_, rfl⟩
      have hxl : s.data.toList[j]'hjl = x := by rw [← hx, List.getD_eq_getElem?_getD, List.getElem?_eq_getElem hjl]; rfl
      rw [hx] at hix
      have cI : ∀ wx, _ := fun wx => text_IsSpace (x.toNat : Int) wx
      have hjz : (j : Int) < (s.size : Int) := by omega
      rcases hsp : spB x with _ | _
      · have hv := hrel.trans (spP_no s.data.toList j hjl (by rw [hxl]; exact hsp))
        have cQ : ∀ wx, Calls Tryz.prog 61 #[.int .u8 (x.toNat : Int)] wx fun e w' => e = .returned (.bool false) ∧ ∃ n, w' = wx.drewN n := fun wx => (cI wx).mono fun e w' ⟨h1, h2⟩ => ⟨by rw [h1, show isSpaceB (x.toNat : Int) = false from hsp], 0, h2 ▸ rfl⟩
        have HV := Lib.hid hv
        have HJ := Lib.hid hJ
        clear hv hrel hsp hJ hxl cI hx
        go_wp2
        go_quiet (first | (go_at_call 61; refine Calls.quiet_of (cQ _)))
        have H5 := Lib.hid (HJ.out.drewN nq)
        have K5 := Lib.hid (hK.drewN nq)
        clear hK
        go_wp2
        exact bodyPost_end (results_none rfl _ _ _) rfl ⟨rfl, by rw [HV.out]; exact H5.out, K5.out⟩
      · have hv := hrel.trans (spP_yes s.data.toList j hjl (by rw [hxl]; exact hsp))
        have cQ : ∀ wx, Calls Tryz.prog 61 #[.int .u8 (x.toNat : Int)] wx fun e w' => e = .returned (.bool true) ∧ ∃ n, w' = wx.drewN n := fun wx => (cI wx).mono fun e w' ⟨h1, h2⟩ => ⟨by rw [h1, show isSpaceB (x.toNat : Int) = true from hsp], 0, h2 ▸ rfl⟩
        have HV := Lib.hid hv
        have HJ := Lib.hid hJ
        clear hv hrel hsp hJ hxl cI hx
        go_wp2
        go_quiet (first | (go_at_call 61; refine Calls.quiet_of (cQ _)))
        have hJ5 : Psr (wr.drewN nq) b s j := HJ.out
        have g1 := hJ5.c1
        have gf := hJ5.f1
        have H5 := Lib.hid (hJ5.set ((j : Int) + 1))
        have K5 := Lib.hid ((hK.drewN nq).set1 (.int .i64 ((j : Int) + 1)))
        clear hK hJ5 c0 c1
        generalize wr.drewN nq = w5 at *
        go_wp2
        go_roundw
        case rel => exact ⟨j + 1, by omega, by omega, HV.out, H5.out, K5.out⟩
        case measure => rw [(Psr.c1 H5.out), M1.out]; simp [intOf]; omega
    · obtain rfl : j = s.size := by omega
      have hv := hrel.trans (spP_end s.data.toList s.size (by have := HSL.out; omega))
      have HV := Lib.hid hv
      have HJ := Lib.hid hJ
      clear hv hrel hJ
      go_wp2
      go_quiet (fail)
      have H5 := Lib.hid (HJ.out.drewN nq)
      have K5 := Lib.hid (hK.drewN nq)
      clear hK
      go_wp2
      exact bodyPost_end (results_none rfl _ _ _) rfl ⟨rfl, by rw [HV.out]; exact H5.out, K5.out⟩
set_option maxRecDepth 100000 in
set_option maxHeartbeats 4000000 in
theorem jp_next (b : Nat) (s : ByteArray) (i : Nat) (w : World) (hC : Psr w b s i) (hi : i ≤ s.size) (hs : s.size ≤ 1000000) (h : spP s.data.toList i < s.size) :
    Calls Tryz.prog 56 #[.pointer (some ⟨b, 0, none⟩)] w fun e w' => e = .returned (.int .u8 ((s.data.toList.getD (spP s.data.toList i) 0).toNat : Int)) ∧ Psr w' b s (spP s.data.toList i : Nat) ∧ Pb b w w' := by
  have cS := jp_skipSpace b s i w hC hi hs
  clear hC
  obtain ⟨j, hj⟩ : ∃ j, spP s.data.toList i = j := ⟨_, rfl⟩
  rw [hj] at cS h ⊢
  have hix := fun wx => jix s .i64 (j : Int) j rfl h wx
  generalize s.data.toList.getD j 0 = x at *
  have hne : ((j : Int) == (s.size : Int)) = false := by simp; omega
  clear hj
  go_enter Tryz.func56, Tryz.ntmps56
  go_wp2_with fail
  refine cS.mono ?_
  rintro e w1 ⟨rfl, P1, K1⟩
  have c0 := P1.c0
  have c1 := P1.c1
  have HP := Lib.hid P1
  have HK := Lib.hid K1
  clear P1 K1
  go_wp2
  go_quiet (fail)
  go_wp2
  go_quiet (fail)
  go_wp2
  go_ret
  exact ⟨rfl, HP.out, (HK.out.drewN _).drewN _⟩
set_option maxRecDepth 100000 in
set_option maxHeartbeats 4000000 in
theorem jp_next_eof (b : Nat) (s : ByteArray) (i : Nat) (w : World) (hC : Psr w b s i) (hi : i ≤ s.size) (hs : s.size ≤ 1000000) (h : ¬ spP s.data.toList i < s.size) :
    Calls Tryz.prog 56 #[.pointer (some ⟨b, 0, none⟩)] w fun e w' => e = fltE s.size 8 ∧ Pb b w w' := by
  have cS := jp_skipSpace b s i w hC hi hs
  have hle := (spP_le s.data.toList i (by simpa using hi)).2
  have hsl : s.data.toList.length = s.size := by simp
  have hj : spP s.data.toList i = s.size := by omega
  rw [hj] at cS
  have cF : ∀ wx, _ := fun wx => jp_fail (s.size : Int) 8 wx
  clear hC hj hle hsl h
  go_enter Tryz.func56, Tryz.ntmps56
  go_wp2_with fail
  refine cS.mono ?_
  rintro e w1 ⟨rfl, P1, K1⟩
  have c0 := P1.c0
  have c1 := P1.c1
  have HK := Lib.hid K1
  clear P1 K1
  go_wp2
  go_quiet (fail)
  go_wp2_with fail
  refine (cF _).mono ?_
  rintro e w2 ⟨rfl, rfl⟩
  go_wp2
  exact ⟨rfl, rfl, HK.out.drewN _⟩
end Go.Proofs.YtdooadalkbghgaaGreatDoor
end
