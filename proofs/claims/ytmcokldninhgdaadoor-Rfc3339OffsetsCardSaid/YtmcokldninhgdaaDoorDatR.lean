/- The walk of the law of layer 3 on offsets and fractions. -/
import Derived.Test.YtmcokldninhgdaaDoorDatO
import Derived.BigRegion
namespace Go.Proofs.YtmcokldninhgdaaDoor
open Go.RowKit

/-- What Parse returns where the time is W. -/
def wantV (W : Int) : Int × Int := if inTime W then (W, 0) else (0, 3)
theorem byte_d2 {n : Int} (h : 0 ≤ n ∧ n ≤ 99) : ∀ x ∈ d2 n, 0 ≤ x ∧ x < 256 := by
  intro x hx
  simp [d2] at hx
  omega
set_option maxRecDepth 100000 in
set_option maxHeartbeats 4000000 in
theorem walk_DatOffsets (t hh mm : Int) (w : World) (hh0 : 0 ≤ hh) (hh1 : hh ≤ 255) (hm0 : 0 ≤ mm) (hm1 : mm ≤ 255) (hT : DatT w) :
    Calls Tryd.prog 7 #[.int .i64 t, .int .u8 hh, .int .u8 mm] w fun e w' => e = .returned (.bool true) ∧ Below w.heap.size w w' := by
  rcases hin : inTime t with _ | _
  · have c1 : ∀ wx, DatT wx → _ := fun wx => dat_Format_no t wx hin
    clear hin
    go_enter Tryd.func7, Tryd.ntmps7
    (go_wp2_with fail); (refine (c1 _ hT).mono ?_); (rintro e w1 ⟨rfl, b1⟩)
    have t1 := DatT_below hT b1
    (go_wp2_with fail); (refine (dat_alive _ t1).mono ?_); (rintro e w2 ⟨rfl, b2⟩)
    go_wp2
    go_ret
    have s1 := b1.size
    exact ⟨by simp, b1.trans (b2.mono (by omega))⟩
  · obtain ⟨y, m, d, h, mi, s, hv, hc, rfl⟩ := time_exists t hin
    obtain ⟨a, ha⟩ : ∃ a, a = hh % 24 := ⟨_, rfl⟩
    obtain ⟨b, hb⟩ : ∃ b, b = mm % 60 := ⟨_, rfl⟩
    have ha2 : 0 ≤ a ∧ a ≤ 23 := by omega
    have hb2 : 0 ≤ b ∧ b ≤ 59 := by omega
    have hl := fmtL_length y m d h mi s
    have hby := fmtL_byte hv hc
    have ba := byte_d2 (n := a) (by omega)
    have bb := byte_d2 (n := b) (by omega)
    have q1 : parseL (zs ((strOfNums (fmtL y m d h mi s)).extract 0 19 ++ ⟨#[43]⟩ ++ (strOfNums (d2 a) ++ ⟨#[58]⟩ ++ strOfNums (d2 b)))) = wantV (timeI y m d h mi s - (a * 3600 + b * 60)) := by
      rw [str_extract, show (⟨#[43]⟩ : ByteArray) = strOfNums [43] from rfl, show (⟨#[58]⟩ : ByteArray) = strOfNums [58] from rfl]
      simp only [str_app]
      rw [zs_nums _ (by
        intro x hx
        simp only [List.mem_append, List.mem_singleton] at hx
        rcases hx with (hx | hx) | (hx | hx) | hx
        · exact hby x (List.mem_of_mem_take (List.mem_of_mem_drop hx))
        · omega
        · exact ba x hx
        · omega
        · exact bb x hx)]
      exact parse_plus hv hc ha2 hb2
    have q2 : parseL (zs ((strOfNums (fmtL y m d h mi s)).extract 0 19 ++ ⟨#[46, 50, 53, 45]⟩ ++ (strOfNums (d2 a) ++ ⟨#[58]⟩ ++ strOfNums (d2 b)))) = wantV (timeI y m d h mi s + (a * 3600 + b * 60)) := by
      rw [str_extract, show (⟨#[46, 50, 53, 45]⟩ : ByteArray) = strOfNums [46, 50, 53, 45] from rfl, show (⟨#[58]⟩ : ByteArray) = strOfNums [58] from rfl]
      simp only [str_app]
      rw [zs_nums _ (by
        intro x hx
        simp only [List.mem_append, List.mem_cons, List.not_mem_nil, or_false] at hx
        rcases hx with (hx | hx) | (hx | hx) | hx
        · exact hby x (List.mem_of_mem_take (List.mem_of_mem_drop hx))
        · omega
        · exact ba x hx
        · omega
        · exact bb x hx)]
      exact parse_minus hv hc ha2 hb2
    have q3 : parseL (zs ((strOfNums (fmtL y m d h mi s)).extract 0 10 ++ ⟨#[116]⟩ ++ (strOfNums (fmtL y m d h mi s)).extract 11 19 ++ ⟨#[46, 48, 122]⟩)) = wantV (timeI y m d h mi s) := by
      rw [str_extract, str_extract, show (⟨#[116]⟩ : ByteArray) = strOfNums [116] from rfl, show (⟨#[46, 48, 122]⟩ : ByteArray) = strOfNums [46, 48, 122] from rfl]
      simp only [str_app]
      rw [zs_nums _ (by
        intro x hx
        simp only [List.mem_append, List.mem_cons, List.not_mem_nil, or_false] at hx
        rcases hx with ((hx | hx) | hx) | hx
        · exact hby x (List.mem_of_mem_take (List.mem_of_mem_drop hx))
        · omega
        · exact hby x (List.mem_of_mem_take (List.mem_of_mem_drop hx))
        · omega)]
      unfold wantV
      rw [time_bd hv hc]
      exact parse_zero hv hc
    have c1 : ∀ wx, DatT wx → _ := fun wx => dat_Format_yes y m d h mi s wx hv hc
    have p1 : ∀ wx, _ := fun wx => dref_Pad2 a wx (by omega) (by omega)
    have p2 : ∀ wx, _ := fun wx => dref_Pad2 b wx (by omega) (by omega)
    have hsz : (strOfNums (fmtL y m d h mi s)).size = 20 := by rw [str_size, hl]
    have hza : (strOfNums (d2 a)).size = 2 := rfl
    have hzb : (strOfNums (d2 b)).size = 2 := rfl
    have hib := of_decide_eq_true hin
    generalize strOfNums (fmtL y m d h mi s) = f at *
    generalize strOfNums (d2 a) = sa at *
    generalize strOfNums (d2 b) = sb at *
    generalize timeI y m d h mi s = t at *
    obtain ⟨sh, hsh⟩ : ∃ sh, sh = a * 3600 + b * 60 := ⟨_, rfl⟩
    have hsb : 0 ≤ sh ∧ sh ≤ 86340 := by omega
    rw [← hsh] at q1 q2
    have hsh' : a * 3600 + b * 60 = sh := hsh.symm
    have Q1 := Lib.hid q1
    have Q2 := Lib.hid q2
    have Q3 := Lib.hid q3
    clear hv hc hl hby ba bb hin hsh q1 q2 q3
    have n1 : (sa ++ ⟨#[58]⟩).size = 3 := by rw [ByteArray.size_append, hza]; rfl
    have n2 : (sa ++ ⟨#[58]⟩ ++ sb).size = 5 := by rw [ByteArray.size_append, n1, hzb]
    go_enter Tryd.func7, Tryd.ntmps7
    (go_wp2_with fail); (refine (c1 _ hT).mono ?_); (rintro e w1 ⟨rfl, b1⟩)
    have t1 := DatT_below hT b1
    go_wp2_with fail
    rw [← ha, ← hb]
    clear ha hb
    refine (p1 _).mono ?_
    rintro e w2 ⟨rfl, b2⟩
    go_wp2_with fail
    refine (p2 _).mono ?_
    rintro e w3 ⟨rfl, b3⟩
    go_wp2_with fail
    have b3w : Below w.heap.size w w3 := (b1.trans (b2.mono b1.size)).trans (b3.mono (by have := b1.size; have := b2.size; omega))
    have hw3 := b3w.size
    have t3 := DatT_below hT b3w
    have i1 : ∀ wx, _ := fun wx => slice_to f 19 (by omega) (by omega) wx
    have i2 : ∀ wx, _ := fun wx => slice_to f 10 (by omega) (by omega) wx
    have i3 : ∀ wx, _ := fun wx => slice_mid f 11 19 (by omega) (by omega) (by omega) wx
    rw [show (19 : Int).toNat = 19 from rfl] at i1 i3
    rw [show (10 : Int).toNat = 10 from rfl] at i2
    rw [show (11 : Int).toNat = 11 from rfl] at i3
    have m1 : (f.extract 0 19).size = 19 := by rw [ByteArray.size_extract]; omega
    have m2 : (f.extract 0 10).size = 10 := by rw [ByteArray.size_extract]; omega
    have m3 : (f.extract 11 19).size = 8 := by rw [ByteArray.size_extract]; omega
    have hT0 := hT
    clear c1 p1 p2 b1 b2 b3 t1 hT n1 hza hzb hh0 hh1 hm0 hm1 hsh'
    generalize f.extract 0 19 = f1 at *
    generalize f.extract 0 10 = f2 at *
    generalize f.extract 11 19 = f3 at *
    generalize sa ++ ⟨#[58]⟩ ++ sb = zn at *
    have r1 : (f1 ++ ⟨#[43]⟩).size = 20 := by rw [ByteArray.size_append, m1]; rfl
    have r2 : (f1 ++ ⟨#[43]⟩ ++ zn).size = 25 := by rw [ByteArray.size_append, r1, n2]
    have r3 : (f1 ++ ⟨#[46, 50, 53, 45]⟩).size = 23 := by rw [ByteArray.size_append, m1]; rfl
    have r4 : (f1 ++ ⟨#[46, 50, 53, 45]⟩ ++ zn).size = 28 := by rw [ByteArray.size_append, r3, n2]
    have r5 : (f2 ++ ⟨#[116]⟩).size = 11 := by rw [ByteArray.size_append, m2]; rfl
    have r6 : (f2 ++ ⟨#[116]⟩ ++ f3).size = 19 := by rw [ByteArray.size_append, r5, m3]
    have r7 : (f2 ++ ⟨#[116]⟩ ++ f3 ++ ⟨#[46, 48, 122]⟩).size = 22 := by rw [ByteArray.size_append, r6]; rfl
    obtain ⟨ib1, ib2⟩ := hib
    obtain ⟨sb1, sb2⟩ := hsb
    have x1 : IntKind.i64.wrap (t - sh) = t - sh := IntWalk.i64_in _ (by omega)
    have x2 : IntKind.i64.wrap (t + sh) = t + sh := IntWalk.i64_in _ (by omega)
    have Q1' := Q1.out
    clear Q1
    obtain ⟨S1, hS1⟩ : ∃ S, f1 ++ ⟨#[43]⟩ ++ zn = S := ⟨_, rfl⟩
    rw [hS1] at Q1' r2
    have cp1 : ∀ wx, DatT wx → _ := fun wx => dat_Parse S1 wx (Nat.le_trans (Nat.le_of_eq r2) (by decide))
    rw [Q1'] at cp1
    clear Q1'
    have Q2' := Q2.out
    clear Q2
    obtain ⟨S2, hS2⟩ : ∃ S, f1 ++ ⟨#[46, 50, 53, 45]⟩ ++ zn = S := ⟨_, rfl⟩
    rw [hS2] at Q2' r4
    have cp2 : ∀ wx, DatT wx → _ := fun wx => dat_Parse S2 wx (Nat.le_trans (Nat.le_of_eq r4) (by decide))
    rw [Q2'] at cp2
    clear Q2'
    have Q3' := Q3.out
    clear Q3
    obtain ⟨S3, hS3⟩ : ∃ S, f2 ++ ⟨#[116]⟩ ++ f3 ++ ⟨#[46, 48, 122]⟩ = S := ⟨_, rfl⟩
    rw [hS3] at Q3' r7
    have cp3 : ∀ wx, DatT wx → _ := fun wx => dat_Parse S3 wx (Nat.le_trans (Nat.le_of_eq r7) (by decide))
    rw [Q3'] at cp3
    clear Q3'
    go_region
    try simp only [hS1, hS2, hS3]
    clear hS1 hS2 hS3
    have z3 : w3.heap.size < (w3.alloc (.cells #[.string S1, .int .i64 (t - sh), .string S2, .int .i64 (t + sh), .string S3, .int .i64 t] 37)).drew.heap.size := by simp
    have g0 : Below w.heap.size w (w3.alloc (.cells #[.string S1, .int .i64 (t - sh), .string S2, .int .i64 (t + sh), .string S3, .int .i64 t] 37)).drew := (b3w.alloc hw3 _).drew
    have u1 : ∀ j v, (#[.string S1, .int .i64 (t - sh), .string S2, .int .i64 (t + sh), .string S3, .int .i64 t] : Array Value)[j]? = some v → (w3.alloc (.cells #[.string S1, .int .i64 (t - sh), .string S2, .int .i64 (t + sh), .string S3, .int .i64 t] 37)).drew.cell? ⟨w3.heap.size, j, none⟩ = some v := by
      intro j v hj
      rw [← hj]
      simp
    have u20 := u1 0 _ rfl
    have u21 := u1 1 _ rfl
    have u22 := u1 2 _ rfl
    have u23 := u1 3 _ rfl
    have u24 := u1 4 _ rfl
    have u25 := u1 5 _ rfl
    clear u1
    generalize hW0 : (w3.alloc (.cells #[.string S1, .int .i64 (t - sh), .string S2, .int .i64 (t + sh), .string S3, .int .i64 t] 37)).drew = W0 at *
    clear hW0
    have tW : DatT W0 := DatT_below hT0 g0
    clear i1 i2 i3 m1 m2 m3 r1 r2 r3 r4 r5 r6 r7 x1 x2 b3w t3
    have u0 := z3
    go_wp2
    go_loopw [80] (fun i wr => ∃ k : Nat, k ≤ 3 ∧ i = .int .i64 k ∧ Below W0.heap.size W0 wr) (fun i _ => 3 - (intOf i).toNat)
    case atStart => exact ⟨0, by omega, rfl, Below.refl _ _⟩
    case round =>
      obtain ⟨k, hk, rfl, hbel⟩ := hrel
      have e0 := (hbel.cell (p := ⟨w3.heap.size, 0, none⟩) z3).trans u20
      have e1 := (hbel.cell (p := ⟨w3.heap.size, 1, none⟩) z3).trans u21
      have e2 := (hbel.cell (p := ⟨w3.heap.size, 2, none⟩) z3).trans u22
      have e3 := (hbel.cell (p := ⟨w3.heap.size, 3, none⟩) z3).trans u23
      have e4 := (hbel.cell (p := ⟨w3.heap.size, 4, none⟩) z3).trans u24
      have e5 := (hbel.cell (p := ⟨w3.heap.size, 5, none⟩) z3).trans u25
      have tr := DatT_below tW hbel
      have hz := hbel.size
      clear u20 u21 u22 u23 u24 u25
      rcases (by omega : k = 0 ∨ k = 1 ∨ k = 2 ∨ k = 3) with rfl | rfl | rfl | rfl
      · rcases hW : inTime (t - sh) with _ | _
        · have hv : wantV (t - sh) = (0, 3) := by unfold wantV; rw [hW]; rfl
          rw [hv] at cp1
          have hq : t - sh < -62135596800 ∨ (-62135596800 ≤ t - sh ∧ ¬ t - sh ≤ 253402300799) := by have := of_decide_eq_false hW; omega
          clear hW hv
          have HQ := Lib.hid hq
          clear hq
          go_wp2_with fail
          refine (cp1 _ (DatT_below tr ((Below.refl _ _).alloc (Nat.le_refl _) _))).mono ?_
          rintro e w5 ⟨rfl, b5⟩
          have hcl : w5.cell? ⟨wr.heap.size, 1, none⟩ = some (.int .i64 (t - sh)) := (b5.cell (p := ⟨wr.heap.size, 1, none⟩) (by simp)).trans (by simp)
          have b6 : Below W0.heap.size W0 w5 := (hbel.alloc hz _).trans (b5.mono (by simp; omega))
          have hq := HQ.out
          clear HQ
          rcases hq with hq | ⟨hq, hq'⟩
          all_goals
            first
            | (exfalso; omega)
            | (go_wp2; exact ⟨⟨1, by omega, rfl, b6⟩, by simp [intOf]⟩)
        · have hv : wantV (t - sh) = (t - sh, 0) := by unfold wantV; rw [hW]; rfl
          rw [hv] at cp1
          have hq := of_decide_eq_true hW
          obtain ⟨hq, hq'⟩ := hq
          clear hW hv
          go_wp2_with fail
          refine (cp1 _ (DatT_below tr ((Below.refl _ _).alloc (Nat.le_refl _) _))).mono ?_
          rintro e w5 ⟨rfl, b5⟩
          have hcl : w5.cell? ⟨wr.heap.size, 1, none⟩ = some (.int .i64 (t - sh)) := (b5.cell (p := ⟨wr.heap.size, 1, none⟩) (by simp)).trans (by simp)
          have b6 : Below W0.heap.size W0 w5 := (hbel.alloc hz _).trans (b5.mono (by simp; omega))
          go_wp2
          exact ⟨⟨1, by omega, rfl, b6⟩, by simp [intOf]⟩
      · rcases hW : inTime (t + sh) with _ | _
        · have hv : wantV (t + sh) = (0, 3) := by unfold wantV; rw [hW]; rfl
          rw [hv] at cp2
          have hq : t + sh < -62135596800 ∨ (-62135596800 ≤ t + sh ∧ ¬ t + sh ≤ 253402300799) := by have := of_decide_eq_false hW; omega
          clear hW hv
          have HQ := Lib.hid hq
          clear hq
          go_wp2_with fail
          refine (cp2 _ (DatT_below tr ((Below.refl _ _).alloc (Nat.le_refl _) _))).mono ?_
          rintro e w5 ⟨rfl, b5⟩
          have hcl : w5.cell? ⟨wr.heap.size, 1, none⟩ = some (.int .i64 (t + sh)) := (b5.cell (p := ⟨wr.heap.size, 1, none⟩) (by simp)).trans (by simp)
          have b6 : Below W0.heap.size W0 w5 := (hbel.alloc hz _).trans (b5.mono (by simp; omega))
          have hq := HQ.out
          clear HQ
          rcases hq with hq | ⟨hq, hq'⟩
          all_goals
            first
            | (exfalso; omega)
            | (go_wp2; exact ⟨⟨2, by omega, rfl, b6⟩, by simp [intOf]⟩)
        · have hv : wantV (t + sh) = (t + sh, 0) := by unfold wantV; rw [hW]; rfl
          rw [hv] at cp2
          have hq := of_decide_eq_true hW
          obtain ⟨hq, hq'⟩ := hq
          clear hW hv
          go_wp2_with fail
          refine (cp2 _ (DatT_below tr ((Below.refl _ _).alloc (Nat.le_refl _) _))).mono ?_
          rintro e w5 ⟨rfl, b5⟩
          have hcl : w5.cell? ⟨wr.heap.size, 1, none⟩ = some (.int .i64 (t + sh)) := (b5.cell (p := ⟨wr.heap.size, 1, none⟩) (by simp)).trans (by simp)
          have b6 : Below W0.heap.size W0 w5 := (hbel.alloc hz _).trans (b5.mono (by simp; omega))
          go_wp2
          exact ⟨⟨2, by omega, rfl, b6⟩, by simp [intOf]⟩
      · rcases hW : inTime (t) with _ | _
        · have hv : wantV (t) = (0, 3) := by unfold wantV; rw [hW]; rfl
          rw [hv] at cp3
          have hq : t < -62135596800 ∨ (-62135596800 ≤ t ∧ ¬ t ≤ 253402300799) := by have := of_decide_eq_false hW; omega
          clear hW hv
          have HQ := Lib.hid hq
          clear hq
          go_wp2_with fail
          refine (cp3 _ (DatT_below tr ((Below.refl _ _).alloc (Nat.le_refl _) _))).mono ?_
          rintro e w5 ⟨rfl, b5⟩
          have hcl : w5.cell? ⟨wr.heap.size, 1, none⟩ = some (.int .i64 (t)) := (b5.cell (p := ⟨wr.heap.size, 1, none⟩) (by simp)).trans (by simp)
          have b6 : Below W0.heap.size W0 w5 := (hbel.alloc hz _).trans (b5.mono (by simp; omega))
          have hq := HQ.out
          clear HQ
          rcases hq with hq | ⟨hq, hq'⟩
          all_goals
            first
            | (exfalso; omega)
            | (go_wp2; exact ⟨⟨3, by omega, rfl, b6⟩, by simp [intOf]⟩)
        · have hv : wantV (t) = (t, 0) := by unfold wantV; rw [hW]; rfl
          rw [hv] at cp3
          have hq := of_decide_eq_true hW
          obtain ⟨hq, hq'⟩ := hq
          clear hW hv
          go_wp2_with fail
          refine (cp3 _ (DatT_below tr ((Below.refl _ _).alloc (Nat.le_refl _) _))).mono ?_
          rintro e w5 ⟨rfl, b5⟩
          have hcl : w5.cell? ⟨wr.heap.size, 1, none⟩ = some (.int .i64 (t)) := (b5.cell (p := ⟨wr.heap.size, 1, none⟩) (by simp)).trans (by simp)
          have b6 : Below W0.heap.size W0 w5 := (hbel.alloc hz _).trans (b5.mono (by simp; omega))
          go_wp2
          exact ⟨⟨3, by omega, rfl, b6⟩, by simp [intOf]⟩
      · go_wp2_with fail
        refine (dat_alive _ tr).mono ?_
        rintro e w5 ⟨rfl, b5⟩
        go_wp2
        go_ret
        have := g0.size
        exact ⟨rfl, (g0.trans (hbel.mono this)).trans (b5.mono (by omega))⟩
end Go.Proofs.YtmcokldninhgdaaDoor
