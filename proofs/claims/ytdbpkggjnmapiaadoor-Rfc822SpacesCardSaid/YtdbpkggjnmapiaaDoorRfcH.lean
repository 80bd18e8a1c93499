/- The reference of layer 4: Format. -/
import Derived.Test.YtdbpkggjnmapiaaDoorRfcG
import Derived.Test.YtdbpkggjnmapiaaDoorDatF
import Derived.Test.YtdbpkggjnmapiaaDoorDatH
import Derived.Deep.QuietTactic
import Derived.BigQuiet
import Derived.WalkSmall
namespace Go.Proofs.YtdbpkggjnmapiaaDoor
open Go.RowKit

/-- Three letters of a list. -/
def three (s : ByteArray) (k : Int) : List Int := ((zs s).take (3 * k + 3).toNat).drop (3 * k).toNat
def fmt822 (y m d h mi s : Int) : List Int := three daysS ((numI y m d + 719163) % 7) ++ [44, 32] ++ d2 d ++ [32] ++ three monthsS (m - 1) ++ [32] ++ d4 y ++ [32] ++ (d2 h ++ [58] ++ d2 mi ++ [58] ++ d2 s) ++ [32, 71, 77, 84]
theorem three_ext (s : ByteArray) (k : Int) : s.extract (3 * k).toNat (3 * k + 3).toNat = strOfNums (three s k) := by
  have h := str_extract (zs s) (3 * k).toNat (3 * k + 3).toNat
  rw [str_zs] at h
  exact h
theorem rref_Format_no (t : Int) (w : World) (h : inTime t = false) :
    Calls Tryd.prog 10 #[.int .i64 t] w fun e w' => e = .returned (.tuple #[.string ⟨#[]⟩, .int .i64 3]) ∧ w = w' := by
  have c1 : ∀ wx, _ := fun wx => dref_Format_no t wx h
  go_enter Tryd.func10, Tryd.ntmps10
  (go_wp2_with fail); (refine (c1 _).mono ?_); (rintro e w' ⟨rfl, rfl⟩)
  go_wp2
  go_ret2
  exact ⟨rfl, rfl⟩

set_option maxRecDepth 100000 in
set_option maxHeartbeats 8000000 in
theorem rref_Format_yes (y m d h mi s : Int) (w : World) (hv : okDate y m d) (hc : okClock h mi s) :
    Calls Tryd.prog 10 #[.int .i64 (timeI y m d h mi s)] w fun e w' => e = .returned (.tuple #[.string (strOfNums (fmt822 y m d h mi s)), .int .i64 0]) ∧ Below w.heap.size w w' := by
  have hb := of_decide_eq_true (time_bd hv hc)
  have hn := num_bd y m d hv
  have c1 : ∀ wx, _ := fun wx => dref_Format_yes y m d h mi s wx hv hc
  have c2 : ∀ wx, _ := fun wx => dref_Number (strOfNums (fmtL y m d h mi s)) 5 2 wx (by omega) (by omega) (by omega) (by rw [str_size, fmtL_length]; omega) (by omega)
  have hz : numL (zs (strOfNums (fmtL y m d h mi s))) (5 : Int).toNat (2 : Int).toNat = m := by
    rw [zs_str _ (fmtL_byte hv hc)]
    exact numGo_d2 m _ (by have := hv.2.2.1; omega) (by have := hv.2.2.2.1; omega)
  rw [hz] at c2
  have hm := hv.2.2
  obtain ⟨t1, t2, t3, t4, t5, t6⟩ := hc
  obtain ⟨wd, hwd⟩ : ∃ wd, wd = (numI y m d + 719163) % 7 := ⟨_, rfl⟩
  have hw7 : 0 ≤ wd ∧ wd ≤ 6 := by omega
  obtain ⟨mm, hmm⟩ : ∃ mm, mm = m - 1 := ⟨_, rfl⟩
  have hm12 : 0 ≤ mm ∧ mm ≤ 11 := by omega
  have hT : timeI y m d h mi s = numI y m d * 86400 + (h * 3600 + mi * 60 + s) := rfl
  have q1 : ((timeI y m d h mi s + 62135596800) / 86400 + 1) % 7 = wd := by omega
  have hfsz : (strOfNums (fmtL y m d h mi s)).size = 20 := by rw [str_size, fmtL_length]
  have x1 := str_extract (fmtL y m d h mi s) 8 10
  have x2 := str_extract (fmtL y m d h mi s) 0 4
  have x3 := str_extract (fmtL y m d h mi s) 11 19
  have x4 := three_ext daysS wd
  have x5 := three_ext monthsS mm
  have hds : daysS.size = 21 := by decide
  have hms : monthsS.size = 36 := by decide
  have hall : strOfNums (three daysS wd) ++ ⟨#[44, 32]⟩ ++ strOfNums (((fmtL y m d h mi s).take 10).drop 8) ++ ⟨#[32]⟩ ++ strOfNums (three monthsS mm) ++ ⟨#[32]⟩ ++ strOfNums (((fmtL y m d h mi s).take 4).drop 0) ++ ⟨#[32]⟩ ++ strOfNums (((fmtL y m d h mi s).take 19).drop 11) ++ ⟨#[32, 71, 77, 84]⟩ = strOfNums (fmt822 y m d h mi s) := by
    rw [show (⟨#[44, 32]⟩ : ByteArray) = strOfNums [44, 32] from rfl, show (⟨#[32]⟩ : ByteArray) = strOfNums [32] from rfl, show (⟨#[32, 71, 77, 84]⟩ : ByteArray) = strOfNums [32, 71, 77, 84] from rfl]
    simp only [str_app]
    rw [hwd, hmm]
    rfl
  have HA := Lib.hid hall
  have y1 : (strOfNums (((fmtL y m d h mi s).take 10).drop 8)).size = 2 := by rw [str_size]; rfl
  have y2 : (strOfNums (((fmtL y m d h mi s).take 4).drop 0)).size = 4 := by rw [str_size]; rfl
  have y3 : (strOfNums (((fmtL y m d h mi s).take 19).drop 11)).size = 8 := by rw [str_size]; rfl
  have y4 : (strOfNums (three daysS wd)).size = 3 := by rw [← x4, ByteArray.size_extract, hds]; omega
  have y5 : (strOfNums (three monthsS mm)).size = 3 := by rw [← x5, ByteArray.size_extract, hms]; omega
  have i1 : ∀ wx, _ := fun wx => slice_mid (strOfNums (fmtL y m d h mi s)) 8 10 (by omega) (by omega) (by omega) wx
  have i2 : ∀ wx, _ := fun wx => slice_to (strOfNums (fmtL y m d h mi s)) 4 (by omega) (by omega) wx
  have i3 : ∀ wx, _ := fun wx => slice_mid (strOfNums (fmtL y m d h mi s)) 11 19 (by omega) (by omega) (by omega) wx
  have i4 : ∀ wx, _ := fun wx => slice_mid daysS (3 * wd) (3 * wd + 3) (by omega) (by omega) (by rw [hds]; omega) wx
  have i5 : ∀ wx, _ := fun wx => slice_mid monthsS (3 * mm) (3 * mm + 3) (by omega) (by omega) (by rw [hms]; omega) wx
  rw [show (8 : Int).toNat = 8 from rfl, show (10 : Int).toNat = 10 from rfl, x1] at i1
  rw [show (4 : Int).toNat = 4 from rfl, x2] at i2
  rw [show (11 : Int).toNat = 11 from rfl, show (19 : Int).toNat = 19 from rfl, x3] at i3
  rw [x4] at i4
  rw [x5] at i5
  have hmm' : m - 1 = mm := hmm.symm
  clear hT hall hz hwd hmm hv hds hms
  generalize timeI y m d h mi s = t at *
  generalize strOfNums (((fmtL y m d h mi s).take 10).drop 8) = z1 at *
  generalize strOfNums (((fmtL y m d h mi s).take 4).drop 0) = z2 at *
  generalize strOfNums (((fmtL y m d h mi s).take 19).drop 11) = z3 at *
  generalize strOfNums (fmtL y m d h mi s) = f at *
  generalize strOfNums (three daysS wd) = z4 at *
  generalize strOfNums (three monthsS mm) = z5 at *
  have e1 : (z4 ++ ⟨#[44, 32]⟩).size = 5 := by rw [ByteArray.size_append, y4]; rfl
  have e2 : (z4 ++ ⟨#[44, 32]⟩ ++ z1).size = 7 := by rw [ByteArray.size_append, e1, y1]
  have e3 : (z4 ++ ⟨#[44, 32]⟩ ++ z1 ++ ⟨#[32]⟩).size = 8 := by rw [ByteArray.size_append, e2]; rfl
  have e4 : (z4 ++ ⟨#[44, 32]⟩ ++ z1 ++ ⟨#[32]⟩ ++ z5).size = 11 := by rw [ByteArray.size_append, e3, y5]
  have e5 : (z4 ++ ⟨#[44, 32]⟩ ++ z1 ++ ⟨#[32]⟩ ++ z5 ++ ⟨#[32]⟩).size = 12 := by rw [ByteArray.size_append, e4]; rfl
  have e6 : (z4 ++ ⟨#[44, 32]⟩ ++ z1 ++ ⟨#[32]⟩ ++ z5 ++ ⟨#[32]⟩ ++ z2).size = 16 := by rw [ByteArray.size_append, e5, y2]
  have e7 : (z4 ++ ⟨#[44, 32]⟩ ++ z1 ++ ⟨#[32]⟩ ++ z5 ++ ⟨#[32]⟩ ++ z2 ++ ⟨#[32]⟩).size = 17 := by rw [ByteArray.size_append, e6]; rfl
  have e8 : (z4 ++ ⟨#[44, 32]⟩ ++ z1 ++ ⟨#[32]⟩ ++ z5 ++ ⟨#[32]⟩ ++ z2 ++ ⟨#[32]⟩ ++ z3).size = 25 := by rw [ByteArray.size_append, e7, y3]
  go_enter Tryd.func10, Tryd.ntmps10
  go_wp2_with fail
  refine (c1 _).mono ?_
  rintro e w1 ⟨rfl, b1⟩
  go_wp2_with fail
  refine (c2 _).mono ?_
  rintro e w2 ⟨rfl, rfl⟩
  go_wp2_with fail
  unfold daysS at i4 x4
  unfold monthsS at i5 x5
  have f1 : 0 ≤ 3 * wd := by omega
  have f2 : 3 * wd ≤ 3 * wd + 3 := by omega
  have f3 : 3 * wd + 3 ≤ 21 := by omega
  have f4 : 0 ≤ 3 * mm := by omega
  have f5 : 3 * mm ≤ 3 * mm + 3 := by omega
  have f6 : 3 * mm + 3 ≤ 36 := by omega
  have a1 : IntKind.i64.wrap (3 * wd) = 3 * wd := IntWalk.i64_in _ (by omega)
  have a2 : IntKind.i64.wrap (3 * wd + 3) = 3 * wd + 3 := IntWalk.i64_in _ (by omega)
  have a3 : IntKind.i64.wrap (3 * mm) = 3 * mm := IntWalk.i64_in _ (by omega)
  have a4 : IntKind.i64.wrap (3 * mm + 3) = 3 * mm + 3 := IntWalk.i64_in _ (by omega)
  clear c1 c2 hb hn q1 hmm'
  go_quiet (fail)
  go_wp2
  go_ret2
  exact ⟨retS HA.out, below_drewN b1 _⟩
end Go.Proofs.YtdbpkggjnmapiaaDoor
