/- Package rfc3339: Format: what it returns. -/
import Derived.Test.YtdbpkggjnmapiaaDoorDatC
import Derived.Test.YtdbpkggjnmapiaaDoorDatF
import Derived.Test.YtdbpkggjnmapiaaDoorCivD
namespace Go.Proofs.YtdbpkggjnmapiaaDoor
open Go.RowKit

theorem dat_Format_no (t : Int) (w : World) (h : inTime t = false) (_hT : DatT w) : Calls Tryd.prog 19 #[.int .i64 t] w fun e w' => e = .returned (.tuple #[.string ⟨#[]⟩, .int .i64 3]) ∧ Below w.heap.size w w' := by
  unfold inTime at h
  have h1 := of_decide_eq_false h
  rcases (by omega : t < -62135596800 ∨ (-62135596800 ≤ t ∧ 253402300799 < t)) with g | ⟨g1, g2⟩
  all_goals
    clear h h1
    go_enter Tryd.func19, Tryd.ntmps19
    go_wp2
    go_ret2
    exact ⟨rfl, Below.refl _ _⟩
theorem fmt_parts2 (y m d h mi s : Int) : (strOfNums (d4 y) ++ ⟨#[45]⟩ ++ strOfNums (d2 m) ++ ⟨#[45]⟩ ++ strOfNums (d2 d)) ++ ⟨#[84]⟩ ++ (strOfNums (d2 h) ++ ⟨#[58]⟩ ++ strOfNums (d2 mi) ++ ⟨#[58]⟩ ++ strOfNums (d2 s)) ++ ⟨#[90]⟩ = strOfNums (fmtL y m d h mi s) := by
  rw [show (⟨#[45]⟩ : ByteArray) = strOfNums [45] from rfl, show (⟨#[84]⟩ : ByteArray) = strOfNums [84] from rfl, show (⟨#[58]⟩ : ByteArray) = strOfNums [58] from rfl, show (⟨#[90]⟩ : ByteArray) = strOfNums [90] from rfl]
  simp only [str_app]
  rfl
set_option maxHeartbeats 4000000 in
theorem dat_Format_yes (y m d h mi s : Int) (w : World) (hv : okDate y m d) (hc : okClock h mi s) (hT : DatT w) : Calls Tryd.prog 19 #[.int .i64 (timeI y m d h mi s)] w fun e w' => e = .returned (.tuple #[.string (strOfNums (fmtL y m d h mi s)), .int .i64 0]) ∧ Below w.heap.size w w' := by
  have hb := time_bd hv hc
  unfold inTime at hb
  rw [decide_eq_true_eq] at hb
  have hn := num_bd y m d hv
  have hm31 := dim_bd y m
  have cD := civ_Date_yes y m d w hv hT.1
  obtain ⟨v1, v2, v3, v4, v5, v6⟩ := hv
  obtain ⟨t1, t2, t3, t4, t5, t6⟩ := hc
  have hTm : timeI y m d h mi s = numI y m d * 86400 + (h * 3600 + mi * 60 + s) := rfl
  have q1 : -719162 + (timeI y m d h mi s + 62135596800) / 86400 = numI y m d := by omega
  have q2 : (timeI y m d h mi s + 62135596800) % 86400 = h * 3600 + mi * 60 + s := by omega
  have q3 : (h * 3600 + mi * 60 + s) / 3600 = h := by omega
  have q4 : (h * 3600 + mi * 60 + s) / 60 % 60 = mi := by omega
  have q5 : (h * 3600 + mi * 60 + s) % 60 = s := by omega
  have q0 : 0 ≤ h * 3600 + mi * 60 + s := by omega
  have p1 : ∀ wx, DatT wx → _ := fun wx ht => dat_pad4 y wx (by omega) (by omega) ht
  have p2 : ∀ wx, DatT wx → _ := fun wx ht => dat_pad2 m wx (by omega) (by omega) ht
  have p3 : ∀ wx, DatT wx → _ := fun wx ht => dat_pad2 d wx (by omega) (by omega) ht
  have p4 : ∀ wx, DatT wx → _ := fun wx ht => dat_pad2 h wx (by omega) (by omega) ht
  have p5 : ∀ wx, DatT wx → _ := fun wx ht => dat_pad2 mi wx (by omega) (by omega) ht
  have p6 : ∀ wx, DatT wx → _ := fun wx ht => dat_pad2 s wx (by omega) (by omega) ht
  have HF := Lib.hid (fmt_parts2 y m d h mi s)
  have z1 : (strOfNums (d4 y)).size = 4 := rfl
  have z2 : (strOfNums (d2 m)).size = 2 := rfl
  have z3 : (strOfNums (d2 d)).size = 2 := rfl
  have z4 : (strOfNums (d2 h)).size = 2 := rfl
  have z5 : (strOfNums (d2 mi)).size = 2 := rfl
  have z6 : (strOfNums (d2 s)).size = 2 := rfl
  clear hTm
  generalize timeI y m d h mi s = t at *
  generalize numI y m d = n at *
  generalize hsec : h * 3600 + mi * 60 + s = sec at *
  generalize strOfNums (d4 y) = s1 at *
  generalize strOfNums (d2 m) = s2 at *
  generalize strOfNums (d2 d) = s3 at *
  generalize strOfNums (d2 h) = s4 at *
  generalize strOfNums (d2 mi) = s5 at *
  generalize strOfNums (d2 s) = s6 at *
  have e1 : (s1 ++ ⟨#[45]⟩).size = 5 := by rw [ByteArray.size_append, z1]; rfl
  have e2 : (s1 ++ ⟨#[45]⟩ ++ s2).size = 7 := by rw [ByteArray.size_append, e1, z2]
  have e3 : (s1 ++ ⟨#[45]⟩ ++ s2 ++ ⟨#[45]⟩).size = 8 := by rw [ByteArray.size_append, e2]; rfl
  have e4 : (s1 ++ ⟨#[45]⟩ ++ s2 ++ ⟨#[45]⟩ ++ s3).size = 10 := by rw [ByteArray.size_append, e3, z3]
  have e5 : (s4 ++ ⟨#[58]⟩).size = 3 := by rw [ByteArray.size_append, z4]; rfl
  have e6 : (s4 ++ ⟨#[58]⟩ ++ s5).size = 5 := by rw [ByteArray.size_append, e5, z5]
  have e7 : (s4 ++ ⟨#[58]⟩ ++ s5 ++ ⟨#[58]⟩).size = 6 := by rw [ByteArray.size_append, e6]; rfl
  have e8 : (s4 ++ ⟨#[58]⟩ ++ s5 ++ ⟨#[58]⟩ ++ s6).size = 8 := by rw [ByteArray.size_append, e7, z6]
  have e9 : (s1 ++ ⟨#[45]⟩ ++ s2 ++ ⟨#[45]⟩ ++ s3 ++ ⟨#[84]⟩).size = 11 := by rw [ByteArray.size_append, e4]; rfl
  have e10 : (s1 ++ ⟨#[45]⟩ ++ s2 ++ ⟨#[45]⟩ ++ s3 ++ ⟨#[84]⟩ ++ (s4 ++ ⟨#[58]⟩ ++ s5 ++ ⟨#[58]⟩ ++ s6)).size = 19 := by rw [ByteArray.size_append, e9, e8]
  clear hn hm31 v1 v2 v3 v4 v5 v6 t1 t2 t3 t4 t5 t6 hsec
  go_enter Tryd.func19, Tryd.ntmps19
  go_wp2_with fail
  refine cD.mono ?_
  rintro e w1 ⟨rfl, b1⟩
  have T1 := DatT_below hT b1
  (go_wp2_with fail); (refine (p1 _ T1).mono ?_); (rintro e w2 ⟨rfl, b2⟩)
  have T2 := DatT_below T1 b2
  (go_wp2_with fail); (refine (p2 _ T2).mono ?_); (rintro e w3 ⟨rfl, b3⟩)
  have T3 := DatT_below T2 b3
  (go_wp2_with fail); (refine (p3 _ T3).mono ?_); (rintro e w4 ⟨rfl, b4⟩)
  have T4 := DatT_below T3 b4
  (go_wp2_with fail); (refine (p4 _ T4).mono ?_); (rintro e w5 ⟨rfl, b5⟩)
  have T5 := DatT_below T4 b5
  (go_wp2_with fail); (refine (p5 _ T5).mono ?_); (rintro e w6 ⟨rfl, b6⟩)
  have T6 := DatT_below T5 b6
  (go_wp2_with fail); (refine (p6 _ T6).mono ?_); (rintro e w7 ⟨rfl, b7⟩)
  go_wp2
  go_ret2
  have k1 := b1.size; have k2 := b2.size; have k3 := b3.size; have k4 := b4.size; have k5 := b5.size; have k6 := b6.size
  exact ⟨retS HF.out, ((((((b1.trans (b2.mono (by omega))).trans (b3.mono (by omega))).trans (b4.mono (by omega))).trans (b5.mono (by omega))).trans (b6.mono (by omega))).trans (b7.mono (by omega)))⟩
end Go.Proofs.YtdbpkggjnmapiaaDoor
