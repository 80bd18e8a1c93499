/- Packed from the texts JpG. -/
import Derived.Test.YtdooadalkbghgaaGreatDoorVkL
import Derived.Test.YtdooadalkbghgaaGreatDoorVkN
section
namespace Go.Proofs.YtdooadalkbghgaaGreatDoor
open Go.RowKit
def OutL {σ : Type} (E : σ → Nat → World → Prop) (w0 : World) (b : Nat) (s : ByteArray) (e : Ending) (w' : World) : Lres σ → Prop
  | .err a x => e = fltE a x ∧ Below w0.heap.size w0 w'
  | .ok st j => e = .returned (.tuple #[]) ∧ Psr w' b s j ∧ j ≤ s.size ∧ E st j w' ∧ Below w0.heap.size w0 w'
theorem pb_below {w0 w w' : World} {b : Nat} (h : Below w0.heap.size w0 w) (k : Pb b w w') (hb : w0.heap.size ≤ b) : Below w0.heap.size w0 w' := Pj.below k h (fun _ e => by omega) h.size
set_option maxRecDepth 100000 in
set_option maxHeartbeats 16000000 in
theorem jp_list_deep (w0 : World) (b : Nat) (s : ByteArray) (c : Int) (fv : Value) (d : Int) (hd : 100 < d) (u : Nat) (w : World) (hC : Psr w b s u) (hw : Below w0.heap.size w0 w) :
    Calls Tryz.prog 76 #[.pointer (some ⟨b, 0, none⟩), .int .i64 d, .int .u8 c, fv] w fun e w' => e = fltE u 9 ∧ Below w0.heap.size w0 w' := by
  have c1 := hC.c1
  have cF : ∀ wx, _ := fun wx => jp_fail (u : Int) 9 wx
  clear hC
  go_enter Tryz.func76, Tryz.ntmps76
  go_wp2_with fail
  refine (cF _).mono ?_
  rintro e w2 ⟨rfl, rfl⟩
  go_wp2
  exact ⟨rfl, rfl, hw⟩
set_option maxRecDepth 100000 in
set_option maxHeartbeats 16000000 in
theorem jp_list {σ : Type} (E : σ → Nat → World → Prop) (step : σ → Nat → Lres σ) (w0 : World) (b : Nat) (s : ByteArray) (c : UInt8) (z : Int) (hz : (c.toNat : Int) = z) (F : Nat) (cap : Array Value) (hs : s.size ≤ 1000000) (hb : w0.heap.size ≤ b)
    (hF : ∀ args w, (callFunc F args).run Tryz.prog w = .ok (.enter F args) w)
    (hE : ∀ st i i' w w', E st i w → Pb b w w' → i ≤ i' → E st i' w')
    (hstep : ∀ st i st' j, i ≤ s.size → step st i = .ok st' j → i < j ∧ j ≤ s.size)
    (u0 : Nat) (hEl : ∀ st i w, i ≤ s.size → u0 < i → E st i w → Psr w b s i → Below w0.heap.size w0 w → Calls Tryz.prog F cap w fun e w' => OutL E w0 b s e w' (step st i))
    (d : Int) (hd : d ≤ 100) (st0 : σ) (hu : u0 < s.size) (w : World) (hC : Psr w b s u0) (hE0 : E st0 (u0 + 1) w) (hw : Below w0.heap.size w0 w) :
    Calls Tryz.prog 76 #[.pointer (some ⟨b, 0, none⟩), .int .i64 d, .int .u8 z, .func (.func F) #[] cap] w fun e w' => OutL E w0 b s e w' (loopL step c s.data.toList (s.data.toList.length + 1) st0 true (u0 + 1)) := by
  have hsl : s.data.toList.length = s.size := by simp
  have c1 := hC.c1
  have g1 := hC.f1
  have hu6 : (u0 : Int) ≤ 1000000 := by omega
  have P0 : Psr (w.setCell ⟨b, 1, none⟩ (.int .i64 ((u0 : Int) + 1))) b s ((u0 + 1 : Nat) : Int) := hC.set _
  have K0 : Pb b w (w.setCell ⟨b, 1, none⟩ (.int .i64 ((u0 : Int) + 1))) := (Pj.refl (fun k => k = b) w).set1 _
  have E0 := hE _ _ _ _ _ hE0 K0 (Nat.le_refl _)
  have W0 := pb_below hw K0 hb
  have HSL := Lib.hid hsl
  obtain ⟨T, hT⟩ : ∃ T, loopL step c s.data.toList (s.data.toList.length + 1) st0 true (u0 + 1) = T := ⟨_, rfl⟩
  rw [hT]
  rw [hsl] at hT
  have HT := Lib.hid hT
  have HP := Lib.hid P0
  have HE0 := Lib.hid E0
  have HW := Lib.hid W0
  clear hC hE0 hw K0 E0 W0 P0 hT hsl
  go_enter Tryz.func76, Tryz.ntmps76
  go_wp2
  go_loopw [8] (fun q wr => ∃ (k : Nat) (st : σ) (first : Bool) (i fu : Nat), q = .int .i64 k ∧ (first = true ↔ k = 0) ∧ loopL step c s.data.toList fu st first i = T ∧ i ≤ s.size ∧ s.size - i < fu ∧ k ≤ i ∧ u0 < i ∧ Psr wr b s i ∧ E st i wr ∧ Below w0.heap.size w0 wr) (fun _ wr => s.size - (intOf ((wr.cell? ⟨b, 1, none⟩).getD (.bool false))).toNat)
  case atStart => exact ⟨0, st0, true, u0 + 1, s.size + 1, rfl, by simp, HT.out, by omega, by omega, by omega, by omega, HP.out, HE0.out, HW.out⟩
  case round =>
    obtain ⟨k, st, first, i, fu, rfl, hfk, hrel, hi, hfu, hki, hui, hP, hSt, hWr⟩ := hrel
    have M1 := Lib.hid hP.c1
    obtain ⟨g, rfl⟩ := Nat.exists_eq_add_of_le (show 1 ≤ fu by omega)
    rw [Nat.add_comm 1 g, loopL, HSL.out] at hrel
    have hsp := spP_le s.data.toList i (by rw [HSL.out]; exact hi)
    rw [HSL.out] at hsp
    by_cases h1 : s.size ≤ spP s.data.toList i
    · rw [if_pos h1] at hrel
      have cS := jp_skip_eof b s i z wr hP hi hs (by omega)
      have HR := Lib.hid hrel
      have HWr := Lib.hid hWr
      clear hrel hSt hP c1 g1 hWr
      go_wp2_with fail
      refine cS.mono ?_
      rintro e w1 ⟨rfl, K1⟩
      go_wp2
      exact ⟨rfl, by rw [← HR.out]; exact ⟨rfl, pb_below HWr.out K1 hb⟩⟩
    rw [if_neg h1] at hrel
    by_cases h2 : s.data.toList.getD (spP s.data.toList i) 0 = c
    · rw [if_pos h2] at hrel
      have cS := jp_skip_yes b s i z wr hP hi hs (by omega) (by rw [h2]; exact hz)
      have HR := Lib.hid hrel
      have HWr := Lib.hid hWr
      have HSt := Lib.hid hSt
      clear hrel hSt hP c1 g1 hWr h2
      go_wp2_with fail
      refine cS.mono ?_
      rintro e w1 ⟨rfl, P1, K1⟩
      go_wp2
      exact bodyPost_end (results_none rfl _ _ _) rfl (by rw [← HR.out]; exact ⟨rfl, P1, by omega, hE _ _ _ _ _ HSt.out K1 (by omega), pb_below HWr.out K1 hb⟩)
    rw [if_neg h2] at hrel
    have cS := jp_skip_no b s i z wr hP hi hs (by omega) (by rw [← hz]; intro e; exact h2 (UInt8.toNat_inj.1 (by omega)))
    obtain ⟨u, hu'⟩ : ∃ u, spP s.data.toList i = u := ⟨_, rfl⟩
    have huu : spP s.data.toList u = u := by rw [← hu']; exact spP_spP _ _ (by rw [HSL.out]; exact hi)
    rw [hu'] at cS hrel h1 hsp
    have HStw := Lib.hid hSt
    have HWr := Lib.hid hWr
    clear h2 hSt hP c1 g1 hWr hu'
    rcases first with _ | _
    · have hk0 : (0 : Int) < (k : Int) := by
        have : k ≠ 0 := fun e => by have := hfk.2 e; cases this
        omega
      by_cases h3 : s.data.toList.getD u 0 = 44
      · rw [if_neg (fun e => e.2 h3), if_neg (by decide)] at hrel
        have HR := Lib.hid hrel
        have HFK := Lib.hid hfk
        clear hrel hfk
        go_wp2_with fail
        refine cS.mono ?_
        rintro e w1 ⟨rfl, P1, K1⟩
        have cQ := jp_require_yes b s u 44 w1 P1 (by omega) hs (by rw [huu]; omega) (by rw [huu, h3]; rfl)
        rw [huu] at cQ
        clear P1
        go_wp2_with fail
        refine cQ.mono ?_
        rintro e w2 ⟨rfl, P2, K2⟩
        have K12 := K1.trans' K2
        have E2 := hE _ _ (u + 1) _ _ HStw.out K12 (by omega)
        have W2 := pb_below HWr.out K12 hb
        have cE := hEl st (u + 1) w2 (by omega) (by omega) E2 P2 W2
        have hst := hstep st (u + 1)
        cases hS : step st (u + 1) with
        | err a x =>
          rw [hS] at cE
          have hR := HR.out
          rw [hS] at hR
          simp only at hR
          subst hR
          clear hst hS E2 P2 W2 K12 K1 K2 cQ cS HR HStw
          go_wp2_with fail
          refine cE.mono ?_
          rintro e w3 ⟨rfl, hB⟩
          go_wp2
          exact ⟨rfl, rfl, hB⟩
        | ok st' j =>
          rw [hS] at cE
          have hR := HR.out
          rw [hS] at hR
          simp only at hR
          obtain ⟨hj1, hj2⟩ := hst st' j (by omega) hS
          have HR2 := Lib.hid hR
          clear hst hS E2 P2 W2 K12 K1 K2 cQ cS HR HStw hR
          go_wp2_with fail
          refine cE.mono ?_
          rintro e w3 ⟨rfl, P3, hj3, E3, W3⟩
          have HE3 := Lib.hid E3
          have HP3 := Lib.hid P3
          have HW3 := Lib.hid W3
          have hk6 : (k : Int) ≤ 1000000 := by omega
          clear E3 P3 W3
          go_wp2
          go_roundw
          case rel => exact ⟨k + 1, st', false, j, g, by go_num, by simp, HR2.out, hj2, by omega, by omega, by omega, HP3.out, HE3.out, HW3.out⟩
          case measure => rw [(Psr.c1 HP3.out), M1.out]; simp [intOf]; omega
      · rw [if_pos ⟨rfl, h3⟩] at hrel
        have HR := Lib.hid hrel
        clear hrel hfk
        go_wp2_with fail
        refine cS.mono ?_
        rintro e w1 ⟨rfl, P1, K1⟩
        have cQ := jp_require_no b s u 44 w1 P1 (by omega) hs (by rw [huu]; omega) (by rw [huu]; intro e; exact h3 (UInt8.toNat_inj.1 (by rw [show (44 : UInt8).toNat = 44 from rfl]; omega)))
        rw [huu] at cQ
        clear P1
        go_wp2_with fail
        refine cQ.mono ?_
        rintro e w2 ⟨rfl, K2⟩
        go_wp2
        exact ⟨rfl, by rw [← HR.out]; exact ⟨rfl, pb_below HWr.out (K1.trans' K2) hb⟩⟩
    · obtain rfl : k = 0 := hfk.1 rfl
      rw [if_neg (fun e => by cases e.1), if_pos rfl] at hrel
      have HR := Lib.hid hrel
      clear hrel hfk
      go_wp2_with fail
      refine cS.mono ?_
      rintro e w1 ⟨rfl, P1, K1⟩
      have E2 := hE _ _ u _ _ HStw.out K1 (by omega)
      have W2 := pb_below HWr.out K1 hb
      have cE := hEl st u w1 (by omega) (by omega) E2 P1 W2
      have hst := hstep st u
      cases hS : step st u with
      | err a x =>
        rw [hS] at cE
        have hR := HR.out
        rw [hS] at hR
        simp only at hR
        subst hR
        clear hst hS E2 P1 W2 K1 cS HR HStw
        go_wp2_with fail
        refine cE.mono ?_
        rintro e w3 ⟨rfl, hB⟩
        go_wp2
        exact ⟨rfl, rfl, hB⟩
      | ok st' j =>
        rw [hS] at cE
        have hR := HR.out
        rw [hS] at hR
        simp only at hR
        obtain ⟨hj1, hj2⟩ := hst st' j (by omega) hS
        have HR2 := Lib.hid hR
        clear hst hS E2 P1 W2 K1 cS HR HStw hR
        go_wp2_with fail
        refine cE.mono ?_
        rintro e w3 ⟨rfl, P3, hj3, E3, W3⟩
        have HE3 := Lib.hid E3
        have HP3 := Lib.hid P3
        have HW3 := Lib.hid W3
        clear E3 P3 W3
        go_wp2
        go_roundw
        case rel => exact ⟨1, st', false, j, g, by go_num, by simp, HR2.out, hj2, by omega, by omega, by omega, HP3.out, HE3.out, HW3.out⟩
        case measure => rw [(Psr.c1 HP3.out), M1.out]; simp [intOf]; omega
end Go.Proofs.YtdooadalkbghgaaGreatDoor
end
