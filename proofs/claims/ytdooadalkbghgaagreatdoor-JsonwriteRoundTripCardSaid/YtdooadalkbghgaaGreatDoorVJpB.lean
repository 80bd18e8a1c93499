/- Packed from the texts JpB. -/
import Derived.Test.YtdooadalkbghgaaGreatDoorVJpA
import Derived.Test.YtdooadalkbghgaaGreatDoorVJsK
section
namespace Go.Proofs.YtdooadalkbghgaaGreatDoor
open Go.RowKit
set_option maxRecDepth 100000 in
set_option maxHeartbeats 4000000 in
theorem jp_skip_yes (b : Nat) (s : ByteArray) (i : Nat) (c : Int) (w : World) (hC : Psr w b s i) (hi : i ≤ s.size) (hs : s.size ≤ 1000000) (h : spP s.data.toList i < s.size) (hc : ((s.data.toList.getD (spP s.data.toList i) 0).toNat : Int) = c) :
    Calls Tryz.prog 96 #[.pointer (some ⟨b, 0, none⟩), .int .u8 c] w fun e w' => e = .returned (.bool true) ∧ Psr w' b s ((spP s.data.toList i + 1 : Nat) : Int) ∧ Pb b w w' := by
  have cN := jp_next b s i w hC hi hs h
  rw [hc] at cN
  clear hC hc
  generalize spP s.data.toList i = j at *
  have hj6 : (j : Int) ≤ 1000000 := by omega
  go_enter Tryz.func96, Tryz.ntmps96
  go_wp2_with fail
  refine cN.mono ?_
  rintro e w1 ⟨rfl, P1, K1⟩
  have c1 := P1.c1
  have g1 := P1.f1
  have HP := Lib.hid (P1.set ((j : Int) + 1))
  have HK := Lib.hid (K1.set1 (.int .i64 ((j : Int) + 1)))
  clear P1 K1
  go_wp2
  go_ret
  exact ⟨rfl, HP.out, HK.out⟩
set_option maxRecDepth 100000 in
set_option maxHeartbeats 4000000 in
theorem jp_skip_no (b : Nat) (s : ByteArray) (i : Nat) (c : Int) (w : World) (hC : Psr w b s i) (hi : i ≤ s.size) (hs : s.size ≤ 1000000) (h : spP s.data.toList i < s.size) (hc : ((s.data.toList.getD (spP s.data.toList i) 0).toNat : Int) ≠ c) :
    Calls Tryz.prog 96 #[.pointer (some ⟨b, 0, none⟩), .int .u8 c] w fun e w' => e = .returned (.bool false) ∧ Psr w' b s (spP s.data.toList i : Nat) ∧ Pb b w w' := by
  have cN := jp_next b s i w hC hi hs h
  have hcb : (((s.data.toList.getD (spP s.data.toList i) 0).toNat : Int) == c) = false := by simpa using hc
  clear hC hc
  generalize ((s.data.toList.getD (spP s.data.toList i) 0).toNat : Int) = x at *
  generalize spP s.data.toList i = j at *
  go_enter Tryz.func96, Tryz.ntmps96
  go_wp2_with fail
  refine cN.mono ?_
  rintro e w1 ⟨rfl, P1, K1⟩
  go_wp2
  go_ret
  exact ⟨rfl, P1, K1⟩
set_option maxRecDepth 100000 in
set_option maxHeartbeats 4000000 in
theorem jp_skip_eof (b : Nat) (s : ByteArray) (i : Nat) (c : Int) (w : World) (hC : Psr w b s i) (hi : i ≤ s.size) (hs : s.size ≤ 1000000) (h : ¬ spP s.data.toList i < s.size) :
    Calls Tryz.prog 96 #[.pointer (some ⟨b, 0, none⟩), .int .u8 c] w fun e w' => e = fltE s.size 8 ∧ Pb b w w' := by
  have cN := jp_next_eof b s i w hC hi hs h
  clear hC h hi
  go_enter Tryz.func96, Tryz.ntmps96
  go_wp2_with fail
  refine cN.mono ?_
  rintro e w1 ⟨rfl, K1⟩
  go_wp2
  exact ⟨rfl, rfl, K1⟩
set_option maxRecDepth 100000 in
set_option maxHeartbeats 4000000 in
theorem jp_require_yes (b : Nat) (s : ByteArray) (i : Nat) (c : Int) (w : World) (hC : Psr w b s i) (hi : i ≤ s.size) (hs : s.size ≤ 1000000) (h : spP s.data.toList i < s.size) (hc : ((s.data.toList.getD (spP s.data.toList i) 0).toNat : Int) = c) :
    Calls Tryz.prog 79 #[.pointer (some ⟨b, 0, none⟩), .int .u8 c] w fun e w' => e = .returned (.tuple #[]) ∧ Psr w' b s ((spP s.data.toList i + 1 : Nat) : Int) ∧ Pb b w w' := by
  have cN := jp_skip_yes b s i c w hC hi hs h hc
  clear hC hc h hi
  generalize spP s.data.toList i = j at *
  go_enter Tryz.func79, Tryz.ntmps79
  go_wp2_with fail
  refine cN.mono ?_
  rintro e w1 ⟨rfl, P1, K1⟩
  go_wp2
  exact bodyPost_end (results_none rfl _ _ _) rfl ⟨rfl, P1, K1⟩
set_option maxRecDepth 100000 in
set_option maxHeartbeats 4000000 in
theorem jp_require_no (b : Nat) (s : ByteArray) (i : Nat) (c : Int) (w : World) (hC : Psr w b s i) (hi : i ≤ s.size) (hs : s.size ≤ 1000000) (h : spP s.data.toList i < s.size) (hc : ((s.data.toList.getD (spP s.data.toList i) 0).toNat : Int) ≠ c) :
    Calls Tryz.prog 79 #[.pointer (some ⟨b, 0, none⟩), .int .u8 c] w fun e w' => e = fltE (spP s.data.toList i : Nat) 7 ∧ Pb b w w' := by
  have cN := jp_skip_no b s i c w hC hi hs h hc
  clear hC hc h hi
  generalize spP s.data.toList i = j at *
  have cF : ∀ wx, _ := fun wx => jp_fail (j : Int) 7 wx
  go_enter Tryz.func79, Tryz.ntmps79
  go_wp2_with fail
  refine cN.mono ?_
  rintro e w1 ⟨rfl, P1, K1⟩
  have c1 := P1.c1
  have HK := Lib.hid K1
  clear P1 K1
  go_wp2_with fail
  refine (cF _).mono ?_
  rintro e w2 ⟨rfl, rfl⟩
  go_wp2
  exact ⟨rfl, rfl, HK.out⟩
set_option maxRecDepth 100000 in
set_option maxHeartbeats 4000000 in
theorem jp_require_eof (b : Nat) (s : ByteArray) (i : Nat) (c : Int) (w : World) (hC : Psr w b s i) (hi : i ≤ s.size) (hs : s.size ≤ 1000000) (h : ¬ spP s.data.toList i < s.size) :
    Calls Tryz.prog 79 #[.pointer (some ⟨b, 0, none⟩), .int .u8 c] w fun e w' => e = fltE s.size 8 ∧ Pb b w w' := by
  have cN := jp_skip_eof b s i c w hC hi hs h
  clear hC h hi
  go_enter Tryz.func79, Tryz.ntmps79
  go_wp2_with fail
  refine cN.mono ?_
  rintro e w1 ⟨rfl, K1⟩
  go_wp2
  exact ⟨rfl, rfl, K1⟩
set_option maxRecDepth 100000 in
set_option maxHeartbeats 4000000 in
theorem jp_word_yes (b : Nat) (s t : ByteArray) (i : Nat) (w : World) (hC : Psr w b s i) (hi : i ≤ s.size) (hs : s.size ≤ 1000000) (ht : t.size ≤ 1000000) (h : t.data.toList.isPrefixOf (s.data.toList.drop i) = true) :
    Calls Tryz.prog 39 #[.pointer (some ⟨b, 0, none⟩), .string t] w fun e w' => e = .returned (.bool true) ∧ Psr w' b s ((i + t.size : Nat) : Int) ∧ Pb b w w' := by
  have cR := jp_rest b s i w hC hi
  have cH : ∀ wx, _ := fun wx => js_HasPrefix (ofBytes (s.data.toList.drop i)) t true wx (by rw [ofBytes_list]; exact h)
  have hk6 : (i : Int) ≤ 1000000 := by omega
  have ht6 : (t.size : Int) ≤ 1000000 := by omega
  clear h
  generalize ofBytes (s.data.toList.drop i) = R at *
  go_enter Tryz.func39, Tryz.ntmps39
  go_wp2_with fail
  refine cR.mono ?_
  rintro e w1 ⟨rfl, n, rfl⟩
  have P1 := hC.drewN n
  have c1 := P1.c1
  have g1 := P1.f1
  have HP := Lib.hid (P1.set ((i : Int) + (t.size : Int)))
  have HK := Lib.hid (((Pj.refl (fun k => k = b) w).drewN n).set1 (.int .i64 ((i : Int) + (t.size : Int))))
  clear P1 hC
  generalize w.drewN n = w1 at *
  (go_wp2_with fail); (refine (cH _).mono ?_); (rintro e w' ⟨rfl, rfl⟩)
  go_wp2
  go_ret
  exact ⟨rfl, HP.out, HK.out⟩
set_option maxRecDepth 100000 in
set_option maxHeartbeats 4000000 in
theorem jp_word_no (b : Nat) (s t : ByteArray) (i : Nat) (w : World) (hC : Psr w b s i) (hi : i ≤ s.size) (h : t.data.toList.isPrefixOf (s.data.toList.drop i) = false) :
    Calls Tryz.prog 39 #[.pointer (some ⟨b, 0, none⟩), .string t] w fun e w' => e = .returned (.bool false) ∧ Psr w' b s i ∧ Below w.heap.size w w' := by
  have cR := jp_rest b s i w hC hi
  have cH : ∀ wx, _ := fun wx => js_HasPrefix (ofBytes (s.data.toList.drop i)) t false wx (by rw [ofBytes_list]; exact h)
  clear h
  generalize ofBytes (s.data.toList.drop i) = R at *
  go_enter Tryz.func39, Tryz.ntmps39
  go_wp2_with fail
  refine cR.mono ?_
  rintro e w1 ⟨rfl, n, rfl⟩
  have P1 := hC.drewN n
  (go_wp2_with fail); (refine (cH _).mono ?_); (rintro e w' ⟨rfl, rfl⟩)
  go_wp2
  go_ret
  exact ⟨rfl, P1, jbelowN (Below.refl _ _) n⟩
def TabV (w : World) : Prop := TabJ w ∧ ∃ te pe, w.cell? ⟨7, 0, none⟩ = some (.iface te pe)
theorem TabV_below {w w' : World} (h : TabV w) (hb : Below w.heap.size w w') : TabV w' := by
  obtain ⟨h1, te, pe, h2⟩ := h
  exact ⟨TabJ_below h1 hb, te, pe, (hb.cell (jblock_lt h2)).trans h2⟩
set_option maxRecDepth 100000 in
set_option maxHeartbeats 4000000 in
theorem jp_str_ok (b : Nat) (s : ByteArray) (i : Nat) (k : List UInt8) (t : Int) (w : World) (hC : Psr w b s i) (hs : s.size ≤ 1000000) (hT : TabJ w) (h : parP s.data.toList (i : Int) = (k, t, 0)) :
    Calls Tryz.prog 58 #[.pointer (some ⟨b, 0, none⟩)] w fun e w' => e = .returned (.string (ofBytes k)) ∧ Psr w' b s t ∧ Pb b w w' := by
  have cP : ∀ wx, TabJ wx → _ := fun wx hT => js_Parse s (i : Int) wx hs hT
  rw [h] at cP
  simp only at cP
  have c0 := hC.c0
  have c1 := hC.c1
  have hlt := hC.lt
  have HC := Lib.hid hC
  clear h hC
  generalize ofBytes k = K at *
  go_enter Tryz.func58, Tryz.ntmps58
  go_wp2
  go_region_held3 (fun w' => w'.cell? ⟨b, 0, none⟩ = some (.string s) ∧ w'.cell? ⟨b, 1, none⟩ = some (.int .i64 (i : Int))) (first | exact ⟨c0, c1⟩ | exact hS5) (first | (go_at_call 75; refine (cP w.drew hT).mono ?_; rintro e w5 ⟨rfl, b5⟩; have hS5 : w5.cell? ⟨b, 0, none⟩ = some (.string s) ∧ w5.cell? ⟨b, 1, none⟩ = some (.int .i64 (i : Int)) := ⟨(b5.cell (p := ⟨b, 0, none⟩) hlt).trans c0, (b5.cell (p := ⟨b, 1, none⟩) hlt).trans c1⟩))
  have P5 : Psr w5 b s i := Psr.more (w := w.drew) HC.out b5
  have g1 := P5.c1
  have gf := P5.f1
  have HP := Lib.hid (P5.set t)
  have HK := Lib.hid ((((Pj.refl (fun k => k = b) w).drew).more b5 : Pb b w w5).set1 (.int .i64 t))
  clear P5 hS5 c0 c1
  go_wp2
  go_ret
  exact ⟨rfl, HP.out, HK.out⟩
set_option maxRecDepth 100000 in
set_option maxHeartbeats 4000000 in
theorem jp_str_bad (b : Nat) (s : ByteArray) (i : Nat) (k : List UInt8) (t x : Int) (w : World) (hC : Psr w b s i) (hs : s.size ≤ 1000000) (hT : TabJ w) (h : parP s.data.toList (i : Int) = (k, t, x)) (hx : x ≠ 0) :
    Calls Tryz.prog 58 #[.pointer (some ⟨b, 0, none⟩)] w fun e w' => e = fltE t x ∧ Pb b w w' := by
  have cP : ∀ wx, TabJ wx → _ := fun wx hT => js_Parse s (i : Int) wx hs hT
  rw [h] at cP
  simp only at cP
  have c0 := hC.c0
  have c1 := hC.c1
  have hlt := hC.lt
  have hx1 : (x != 0) = true := by simpa using hx
  have hx2 : (x == 0) = false := by simpa using hx
  have cF : ∀ wx, _ := fun wx => jp_fail t x wx
  clear h hC hx
  generalize ofBytes k = K at *
  go_enter Tryz.func58, Tryz.ntmps58
  go_wp2
  go_region_held3 (fun w' => w'.cell? ⟨b, 0, none⟩ = some (.string s) ∧ w'.cell? ⟨b, 1, none⟩ = some (.int .i64 (i : Int))) (first | exact ⟨c0, c1⟩ | exact hS5) (first | (go_at_call 75; refine (cP w.drew hT).mono ?_; rintro e w5 ⟨rfl, b5⟩; have hS5 : w5.cell? ⟨b, 0, none⟩ = some (.string s) ∧ w5.cell? ⟨b, 1, none⟩ = some (.int .i64 (i : Int)) := ⟨(b5.cell (p := ⟨b, 0, none⟩) hlt).trans c0, (b5.cell (p := ⟨b, 1, none⟩) hlt).trans c1⟩))
  have HK := Lib.hid (((Pj.refl (fun k => k = b) w).drew).more b5 : Pb b w w5)
  clear hS5 c0 c1
  go_wp2_with fail
  refine (cF _).mono ?_
  rintro e w6 ⟨rfl, rfl⟩
  go_wp2
  exact ⟨rfl, rfl, HK.out⟩
theorem jp_leadingZero (s : ByteArray) (w : World) :
    Calls Tryz.prog 73 #[.string s] w fun e w' => e = .returned (.bool (decide (1 < s.size ∧ s.data.toList.getD 0 0 = 48))) ∧ w = w' := by
  have h8 : ∀ x : UInt8, x = 48 ↔ (x.toNat : Int) = 48 := fun x => by
    rw [show x = 48 ↔ x.toNat = 48 from ⟨fun h => by rw [h]; rfl, fun h => UInt8.toNat_inj.1 h⟩]
    omega
  by_cases h1 : 1 < s.size
  · have hix := fun wx => jix s .i64 0 0 rfl (by omega) wx
    have h8' := h8 (s.data.toList.getD 0 0)
    generalize s.data.toList.getD 0 0 = x at *
    have hz : (1 : Int) < (s.size : Int) := by omega
    obtain ⟨z, hzx⟩ : ∃ z : Int, (x.toNat : Int) = z := ⟨_, rfl⟩
    rw [hzx] at hix h8'
    by_cases hx : z = 48
    · rw [decide_eq_true ⟨h1, h8'.2 hx⟩]
      clear h8'
      go_enter Tryz.func73, Tryz.ntmps73
      go_wp2
      go_ret
      exact ⟨by simp, rfl⟩
    · rw [decide_eq_false (fun h => hx (h8'.1 h.2))]
      have hxb : (z == 48) = false := by simpa using hx
      clear h8'
      go_enter Tryz.func73, Tryz.ntmps73
      go_wp2
      go_ret
      exact ⟨by simp, rfl⟩
  · rw [decide_eq_false (fun h => h1 h.1)]
    have hz : ¬ (1 : Int) < (s.size : Int) := by omega
    go_enter Tryz.func73, Tryz.ntmps73
    go_wp2
    go_ret
    exact ⟨rfl, rfl⟩
end Go.Proofs.YtdooadalkbghgaaGreatDoor
end
