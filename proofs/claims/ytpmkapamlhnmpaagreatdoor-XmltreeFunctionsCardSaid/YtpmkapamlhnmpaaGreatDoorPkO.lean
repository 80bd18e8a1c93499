/- Packed from the texts TrfA TrfC TrfO TrlF. -/
import Derived.Test.YtpmkapamlhnmpaaGreatDoorPkD
import Derived.Test.YtpmkapamlhnmpaaGreatDoorPkF
import Derived.Test.YtpmkapamlhnmpaaGreatDoorQRfcW
import Derived.Test.YtpmkapamlhnmpaaGreatDoorQTokX
import Derived.Carry
import Derived.Deep.Fields
import Derived.ProofKit
import Derived.Test.YtpmkapamlhnmpaaGreatDoorCards
import Derived.Test.YtpmkapamlhnmpaaGreatDoorTie
import Derived.OpenShut
import Derived.SliceStrings
import Derived.SizedLaws
import Derived.Lay
import Derived.LaidOnce
import Derived.SevenTiedAt
section
namespace Go.Proofs.YtpmkapamlhnmpaaGreatDoor
open Go.RowKit
def mn (s : ByteArray) : Nat := min s.size 9000
def wgtAs : List AttrD → Nat → Nat
  | [], T => T
  | x :: r, T => wgtAs r (T + (1 + mn x.sp + mn x.nm + mn x.va))
mutual
def NodeD.wgt : NodeD → Nat → Nat
  | .mk _ sp nm al kids tx _, T => wgtKs kids (wgtAs al (T + (1 + mn sp + mn nm + mn tx)))
def wgtKs : List NodeD → Nat → Nat
  | [], T => T
  | k :: r, T => if 9000 < T then T else wgtKs r (k.wgt T)
end
theorem wgt_eq (n : NodeD) (T : Nat) : n.wgt T = wgtKs n.kids (wgtAs n.al (T + (1 + mn n.sp + mn n.nm + mn n.tx))) := by cases n; rw [NodeD.wgt]; rfl
theorem mn_le (s : ByteArray) : mn s ≤ 9000 := Nat.min_le_right _ _
mutual
def NodeD.WF : NodeD → Prop
  | .mk _ _ _ al kids _ _ => al.length ≤ 140737488351232 ∧ kids.length ≤ 140737488351232 ∧ WFs kids
def WFs : List NodeD → Prop
  | [] => True
  | k :: r => k.WF ∧ WFs r
end
theorem wf_eq (n : NodeD) : n.WF ↔ n.al.length ≤ 140737488351232 ∧ n.kids.length ≤ 140737488351232 ∧ WFs n.kids := by cases n; rw [NodeD.WF]; exact Iff.rfl
theorem wfs_mem : ∀ (l : List NodeD), WFs l → ∀ k ∈ l, k.WF
  | [], _, _, h => by cases h
  | x :: r, h, k, hk => by
    rw [WFs] at h
    rcases List.mem_cons.1 hk with rfl | hk
    · exact h.1
    · exact wfs_mem r h.2 k hk
theorem wgtAs_le : ∀ (l : List AttrD) (T : Nat), T ≤ wgtAs l T ∧ wgtAs l T ≤ T + 27001 * l.length
  | [], T => ⟨Nat.le_refl _, Nat.le_refl _⟩
  | x :: r, T => by
    rw [wgtAs]
    have h := wgtAs_le r (T + (1 + mn x.sp + mn x.nm + mn x.va))
    have h1 := mn_le x.sp
    have h2 := mn_le x.nm
    have h3 := mn_le x.va
    rw [List.length_cons]
    omega
def mxW : Nat := 9000 + 27001 + 27001 * 140737488351232
mutual
theorem wgt_le : ∀ (n : NodeD) (T : Nat), n.WF → T ≤ 9000 → n.wgt T ≤ mxW
  | .mk k sp nm al kids tx a, T, h, hT => by
    rw [NodeD.wgt]
    rw [NodeD.WF] at h
    have h0 := wgtAs_le al (T + (1 + mn sp + mn nm + mn tx))
    have h1 := mn_le sp
    have h2 := mn_le nm
    have h3 := mn_le tx
    have hm : 27001 * al.length ≤ 27001 * 140737488351232 := Nat.mul_le_mul_left _ h.1
    exact wgtKs_le kids _ h.2.2 (by unfold mxW; omega)
theorem wgtKs_le : ∀ (l : List NodeD) (T : Nat), WFs l → T ≤ mxW → wgtKs l T ≤ mxW
  | [], T, _, hT => hT
  | k :: r, T, h, hT => by
    rw [wgtKs]
    rw [WFs] at h
    split
    · exact hT
    · exact wgtKs_le r _ h.2 (wgt_le k T h.1 (by omega))
end
theorem wgtAs_drop (l : List AttrD) (i : Nat) (h : i < l.length) (T : Nat) : wgtAs (l.drop i) T = wgtAs (l.drop (i + 1)) (T + (1 + mn l[i].sp + mn l[i].nm + mn l[i].va)) := by
  rw [List.drop_eq_getElem_cons h, wgtAs]
theorem wgtKs_drop (l : List NodeD) (i : Nat) (h : i < l.length) (T : Nat) : wgtKs (l.drop i) T = if 9000 < T then T else wgtKs (l.drop (i + 1)) (l[i].wgt T) := by
  rw [List.drop_eq_getElem_cons h, wgtKs]
theorem wrap_up {x : Int} (h0 : 0 ≤ x) (h1 : x ≤ 9000000000000000000) : IntKind.i64.wrap x = x := wrap_small x (by omega) (by omega)
set_option maxRecDepth 100000 in
set_option maxHeartbeats 8000000 in
theorem law_weight : ∀ (f : Nat) (n : NodeD) (v : Value) (T : Nat) (w : World), n.cnt ≤ f → n.WF → T ≤ 9000 → NodeIs w n v → Calls Tryz.prog 34 #[v, .int .i64 (T : Int)] w fun e w' => e = .returned (.int .i64 (n.wgt T : Nat)) ∧ Below w.heap.size w w'
  | 0, n, _, _, _, hf, _, _, _ => absurd hf (by have := cnt_eq n; omega)
  | f + 1, n, v, T, w, hf, hW, hT, hn => by
    have HD := Lib.hid (wgt_eq n T)
    have hmx := wgt_le n T hW hT
    have hkm : ∀ k ∈ n.kids, k.cnt ≤ f ∧ k.WF := fun k hk => ⟨by have := cnt_kid n k hk; omega, wfs_mem _ ((wf_eq n).1 hW).2.2 k hk⟩
    have HKM := Lib.hid hkm
    have hwf := (wf_eq n).1 hW
    have hks := wgtKs_le n.kids
    have hkw := hwf.2.2
    have hal0 := hwf.1
    have hkl0 := hwf.2.1
    obtain ⟨pa, ca, pk, ck, rfl, hA, hK⟩ := (node_is w n v).1 hn
    have hkl : (n.kids.length : Int) ≤ 140737488351232 := by omega
    have hal : (n.al.length : Int) ≤ 140737488351232 := by omega
    have h1 := mn_le n.sp
    have h2 := mn_le n.nm
    have h3 := mn_le n.tx
    have m1 : min (n.sp.size : Int) 9000 = (mn n.sp : Int) := by unfold mn; omega
    have m2 : min (n.nm.size : Int) 9000 = (mn n.nm : Int) := by unfold mn; omega
    have m3 : min (n.tx.size : Int) 9000 = (mn n.tx : Int) := by unfold mn; omega
    clear hn hkm hf hwf hW
    generalize mn n.sp = y1 at *
    generalize mn n.nm = y2 at *
    generalize mn n.tx = y3 at *
    generalize n.al = al at *
    generalize n.kids = kids at *
    have f14 : (w.alloc (.cells #[.int .i64 n.kind, .string n.sp, .string n.nm, .slice pa al.length ca, .slice pk kids.length ck, .string n.tx, .int .i64 n.at'] 26)).cell? ⟨w.heap.size, 4, none⟩ = some (.slice pk kids.length ck) := by simp
    have hbw0 : Below w.heap.size w (w.alloc (.cells #[.int .i64 n.kind, .string n.sp, .string n.nm, .slice pa al.length ca, .slice pk kids.length ck, .string n.tx, .int .i64 n.at'] 26)) := (Below.refl _ _).alloc (Nat.le_refl _) _
    have hz0 : (w.alloc (.cells #[.int .i64 n.kind, .string n.sp, .string n.nm, .slice pa al.length ca, .slice pk kids.length ck, .string n.tx, .int .i64 n.at'] 26)).heap.size = w.heap.size + 1 := by simp
    have w1 : IntKind.i64.wrap (1 + (y1 : Int)) = 1 + y1 := wrap_up (by omega) (by omega)
    have w2 : IntKind.i64.wrap (1 + (y1 : Int) + y2) = 1 + y1 + y2 := wrap_up (by omega) (by omega)
    have w3 : IntKind.i64.wrap (1 + (y1 : Int) + y2 + y3) = 1 + y1 + y2 + y3 := wrap_up (by omega) (by omega)
    have w4 : IntKind.i64.wrap ((T : Int) + (1 + (y1 : Int) + y2 + y3)) = (T : Int) + (1 + (y1 : Int) + y2 + y3) := wrap_up (by omega) (by omega)
    have HMX := Lib.hid hmx
    have HKS := Lib.hid hks
    clear hmx hks
    go_enter Tryz.func34, Tryz.ntmps34
    go_wp2
    generalize (w.alloc (.cells #[.int .i64 n.kind, .string n.sp, .string n.nm, .slice pa al.length ca, .slice pk kids.length ck, .string n.tx, .int .i64 n.at'] 26)) = W0 at *
    have hT0 : T + (1 + y1 + y2 + y3) ≤ 36001 := by omega
    have HAL := Lib.hid (wgtAs_le al (T + (1 + y1 + y2 + y3)))
    have hst : (T : Int) + (1 + (y1 : Int) + y2 + y3) = ((T + (1 + y1 + y2 + y3) : Nat) : Int) := by omega
    have HST := Lib.hid hst
    generalize hTT : T + (1 + y1 + y2 + y3) = T1 at *
    clear hst hTT w1 w2 w3 w4 m1 m2 m3 h1 h2 h3
    go_loopw [1, 29] (fun b q wr => ∃ (i S : Nat), i ≤ al.length ∧ q = .int .i64 i ∧ b = .int .i64 S ∧ wgtAs al T1 = wgtAs (al.drop i) S ∧ Below (w.heap.size + 1) W0 wr) (fun _ q _ => al.length - (intOf q).toNat)
    case atStart => exact ⟨0, T1, Nat.zero_le _, rfl, by rw [HST.out], rfl, Below.refl _ _⟩
    case round =>
      obtain ⟨i, S, hi, rfl, rfl, hrel, hbel⟩ := hrel
      obtain ⟨wo, rfl⟩ : ∃ wo, wo = wr := ⟨_, rfl⟩
      have hzo : w.heap.size + 1 ≤ wo.heap.size := by have := hbel.size; omega
      have hbo : Below w.heap.size w wo := hbw0.trans (hbel.mono (by omega))
      have hSb : S ≤ 36001 + 27001 * al.length := by
        have := HAL.out
        have h4 := (wgtAs_le (al.drop i) S).1
        omega
      by_cases hlt : i < al.length
      case pos =>
        have hiz : (i : Int) < (al.length : Int) := by omega
        obtain ⟨a, rfl, g0, g1, g2, g3⟩ := hA.below hbo i hlt
        rw [wgtAs_drop al i hlt] at hrel
        obtain ⟨x, hx⟩ : ∃ x, al[i] = x := ⟨_, rfl⟩
        rw [hx] at g0 g1 g2 g3 hrel
        obtain ⟨xs, xn, xv, xa⟩ := x
        simp only at g0 g1 g2 g3 hrel
        obtain ⟨cc, hcc⟩ : ∃ c, a.add (i * 4) = c := ⟨_, rfl⟩
        rw [hcc] at g0 g1 g2 g3
        simp only [Addr.add, Nat.reduceEqDiff, ↓reduceIte] at g1 g2 g3
        have h1 := mn_le xs
        have h2 := mn_le xn
        have h3 := mn_le xv
        have m1 : min (xs.size : Int) 9000 = (mn xs : Int) := by unfold mn; omega
        have m2 : min (xn.size : Int) 9000 = (mn xn : Int) := by unfold mn; omega
        have m3 : min (xv.size : Int) 9000 = (mn xv : Int) := by unfold mn; omega
        generalize mn xs = y1 at *
        generalize mn xn = y2 at *
        generalize mn xv = y3 at *
        have w1 : IntKind.i64.wrap (1 + (y1 : Int)) = 1 + y1 := wrap_up (by omega) (by omega)
        have w2 : IntKind.i64.wrap (1 + (y1 : Int) + y2) = 1 + y1 + y2 := wrap_up (by omega) (by omega)
        have w3 : IntKind.i64.wrap (1 + (y1 : Int) + y2 + y3) = 1 + y1 + y2 + y3 := wrap_up (by omega) (by omega)
        have w4 : IntKind.i64.wrap ((S : Int) + (1 + (y1 : Int) + y2 + y3)) = (S : Int) + (1 + (y1 : Int) + y2 + y3) := wrap_up (by omega) (by omega)
        have hb2 : ∀ o : Obj, Below (w.heap.size + 1) W0 (wo.alloc o) := fun o => hbel.alloc hzo _
        have HN := Lib.hid hrel
        have HS2 := Lib.hid (show (S : Int) + (1 + (y1 : Int) + y2 + y3) = ((S + (1 + y1 + y2 + y3) : Nat) : Int) by omega)
        clear hrel hA hK f14
        go_wp2
        go_roundw
        case rel => exact ⟨i + 1, S + (1 + y1 + y2 + y3), by omega, by go_num, by rw [HS2.out], HN.out, hb2 _⟩
        case measure => simp [intOf]; omega
      case neg =>
        obtain rfl : i = al.length := by omega
        have HB := Lib.hid (show wgtAs al T1 = S by rw [hrel, List.drop_eq_nil_of_le (Nat.le_refl _)]; rfl)
        have g14 := (hbel.cell (p := ⟨w.heap.size, 4, none⟩) (by show w.heap.size < _; omega)).trans f14
        have hiz : ¬ (al.length : Int) < (al.length : Int) := by omega
        have hSm : S ≤ mxW := by
          have : 27001 * al.length ≤ 27001 * 140737488351232 := Nat.mul_le_mul_left _ hal0
          unfold mxW
          omega
        have HSM := Lib.hid hSm
        clear hrel hA hSb hSm
        go_wp2
        go_loopw [1, 54] (fun b q wr => ∃ (j R : Nat), j ≤ kids.length ∧ q = .int .i64 j ∧ b = .int .i64 R ∧ R ≤ mxW ∧ wgtKs kids S = wgtKs (kids.drop j) R ∧ Below (w.heap.size + 1) W0 wr) (fun _ q _ => kids.length - (intOf q).toNat)
        case atStart => exact ⟨0, S, Nat.zero_le _, rfl, rfl, HSM.out, rfl, hbel⟩
        case round =>
          clear g14 hbel hbo hzo f14
          obtain ⟨j, R, hj, rfl, rfl, hRm, hrl, hbl⟩ := hrel
          obtain ⟨wi, rfl⟩ : ∃ wi, wi = wr := ⟨_, rfl⟩
          have hzi : w.heap.size + 1 ≤ wi.heap.size := by have := hbl.size; omega
          have hbi : Below w.heap.size w wi := hbw0.trans (hbl.mono (by omega))
          have HRM := Lib.hid hRm
          clear hRm
          by_cases hjl : j < kids.length
          case pos =>
            have hjz : (j : Int) < (kids.length : Int) := by omega
            obtain ⟨a, v0, v1, v2, v3, v4, v5, v6, rfl, ⟨b0, b1, b2, b3, b4, b5, b6⟩, hk⟩ := KidsAt.get kids 0 (hK.below hbi) j hjl
            rw [Nat.zero_add] at b0 b1 b2 b3 b4 b5 b6
            rw [wgtKs_drop kids j hjl] at hrl
            have hmem : kids[j] ∈ kids := List.getElem_mem _
            obtain ⟨K, hKj⟩ : ∃ K, kids[j] = K := ⟨_, rfl⟩
            rw [hKj] at hk hmem hrl
            obtain ⟨ra, rc, rk, rl, hv, -, -⟩ := (node_is wi K _).1 hk
            simp only [Value.agg.injEq, Array.mk.injEq, List.cons.injEq, and_true] at hv
            obtain ⟨rfl, rfl, rfl, rfl, rfl, rfl, rfl⟩ := hv
            have hKW := (HKM.out _ hmem).2
            have c1 : ∀ o, R ≤ 9000 → _ := fun (o : Obj) hR => law_weight f K _ R (wi.alloc o) (HKM.out _ hmem).1 hKW hR (NodeIs.below ((Below.refl _ _).alloc (Nat.le_refl _) o) _ _ hk)
            have HKW := Lib.hid (fun hR => wgt_le K R hKW hR)
            clear hKj hKW
            generalize K.wgt R = zb at *
            generalize K.kind = y0 at *
            generalize K.sp = y1 at *
            generalize K.nm = y2 at *
            generalize K.al.length = y3 at *
            generalize K.kids.length = y4 at *
            generalize K.tx = y5 at *
            generalize K.at' = y6 at *
            obtain ⟨cc, hcc⟩ : ∃ c, a.add (j * 7) = c := ⟨_, rfl⟩
            rw [hcc] at b0 b1 b2 b3 b4 b5 b6
            simp only [Addr.add, Nat.reduceEqDiff, ↓reduceIte] at b1 b2 b3 b4 b5 b6
            have hb2 : ∀ o : Obj, Below (w.heap.size + 1) W0 (wi.alloc o) := fun o => hbl.alloc hzi _
            by_cases hR9 : 9000 < R
            · rw [if_pos hR9] at hrl
              have hR9z : (9000 : Int) < (R : Int) := by omega
              have HN := Lib.hid (show n.wgt T = R by rw [HD.out, HB.out, hrl])
              have hbe : ∀ o : Obj, Below w.heap.size w (wi.alloc o) := fun o => hbi.alloc (by omega) _
              clear hrl hK hk hmem c1 HKM
              go_wp2
              go_ret
              exact ⟨trI (by rw [HN.out]), hbe _⟩
            · rw [if_neg hR9] at hrl
              have hR9z : ¬ (9000 : Int) < (R : Int) := by omega
              have HN := Lib.hid hrl
              have hzm := HKW.out (by omega)
              have HZM := Lib.hid hzm
              clear hrl hK hk hmem HKM HKW hzm
              go_wp2_with fail
              refine (c1 _ (by omega)).mono ?_
              rintro e w5 ⟨rfl, b5⟩
              have hb5 : Below (w.heap.size + 1) W0 w5 := (hb2 _).trans (b5.mono (by have := ((Below.refl _ wi).alloc (Nat.le_refl _) (.cells #[.int .i64 y0, .string y1, .string y2, .slice ra y3 rc, .slice rk y4 rl, .string y5, .int .i64 y6] 26)).size; omega))
              clear c1 b5
              go_wp2
              go_roundw
              case rel => exact ⟨j + 1, zb, by omega, by go_num, rfl, HZM.out, HN.out, hb5⟩
              case measure => simp [intOf]; omega
          case neg =>
            obtain rfl : j = kids.length := by omega
            have HX := Lib.hid (show n.wgt T = R by rw [HD.out, HB.out, hrl, List.drop_eq_nil_of_le (Nat.le_refl _)]; rfl)
            have hjz : ¬ (kids.length : Int) < (kids.length : Int) := by omega
            clear hrl hK
            go_wp2
            go_ret
            exact ⟨trI (by rw [HX.out]), hbi⟩
set_option maxRecDepth 100000 in
set_option maxHeartbeats 4000000 in
theorem law_TooLarge (n : NodeD) (v : Value) (w : World) (hW : n.WF) (hn : NodeIs w n v) : Calls Tryz.prog 13 #[v] w fun e w' => e = .returned (.int .i64 (oneIf (decide (5000 < n.wgt 0)))) ∧ Below w.heap.size w w' := by
  have c1 : ∀ o, _ := fun o : Obj => law_weight n.cnt n v 0 (w.alloc o) (Nat.le_refl _) hW (by decide) (NodeIs.below ((Below.refl _ _).alloc (Nat.le_refl _) o) _ _ hn)
  obtain ⟨pa, ca, pk, ck, rfl, -, -⟩ := (node_is w n v).1 hn
  have hbe : ∀ o : Obj, Below w.heap.size w (w.alloc o) := fun o => (Below.refl _ _).alloc (Nat.le_refl _) _
  rw [show ((0 : Nat) : Int) = 0 from rfl] at c1
  clear hn
  generalize n.wgt 0 = T at *
  by_cases hT : 5000 < T
  · have hTz : (5000 : Int) < (T : Int) := by omega
    rw [decide_eq_true hT]
    go_enter Tryz.func13, Tryz.ntmps13
    go_wp2_with fail
    refine (c1 _).mono ?_
    rintro e w5 ⟨rfl, b5⟩
    have hb5 := (hbe _).trans (b5.mono (by simp))
    go_wp2
    go_ret
    exact ⟨rfl, hb5⟩
  · have hTz : ¬ (5000 : Int) < (T : Int) := by omega
    rw [decide_eq_false hT]
    go_enter Tryz.func13, Tryz.ntmps13
    go_wp2_with fail
    refine (c1 _).mono ?_
    rintro e w5 ⟨rfl, b5⟩
    have hb5 := (hbe _).trans (b5.mono (by simp))
    go_wp2
    go_ret
    exact ⟨rfl, hb5⟩
mutual
def NodeD.mass : NodeD → Nat
  | .mk _ sp nm al kids tx _ => 1 + sp.size + nm.size + tx.size + (al.map fun x => 1 + x.sp.size + x.nm.size + x.va.size).sum + masses kids
def masses : List NodeD → Nat
  | [] => 0
  | k :: r => k.mass + masses r
end
theorem wgtAs_mass : ∀ (l : List AttrD) (T : Nat), wgtAs l T ≤ 9000 → wgtAs l T = T + (l.map fun x => 1 + x.sp.size + x.nm.size + x.va.size).sum
  | [], T, _ => rfl
  | x :: r, T, h => by
    rw [wgtAs] at h ⊢
    have h0 := wgtAs_le r (T + (1 + mn x.sp + mn x.nm + mn x.va))
    have := wgtAs_mass r _ h
    rw [this, List.map_cons, List.sum_cons]
    unfold mn at *
    omega
mutual
theorem wgt_ge : ∀ (n : NodeD) (T : Nat), T ≤ n.wgt T
  | .mk _ sp nm al kids tx _, T => by
    rw [NodeD.wgt]
    have h0 := wgtAs_le al (T + (1 + mn sp + mn nm + mn tx))
    have := wgts_ge kids (wgtAs al (T + (1 + mn sp + mn nm + mn tx)))
    omega
theorem wgts_ge : ∀ (l : List NodeD) (T : Nat), T ≤ wgtKs l T
  | [], T => Nat.le_refl _
  | k :: r, T => by
    rw [wgtKs]
    split
    · exact Nat.le_refl _
    · exact Nat.le_trans (wgt_ge k T) (wgts_ge r _)
end
mutual
theorem wgt_mass : ∀ (n : NodeD) (T : Nat), n.wgt T ≤ 8999 → n.wgt T = T + n.mass
  | .mk _ sp nm al kids tx _, T, h => by
    rw [NodeD.wgt] at h ⊢
    have h0 := wgtAs_le al (T + (1 + mn sp + mn nm + mn tx))
    have h1 := wgts_ge kids (wgtAs al (T + (1 + mn sp + mn nm + mn tx)))
    rw [wgts_mass kids _ h, NodeD.mass, wgtAs_mass al _ (by omega)]
    unfold mn at *
    omega
theorem wgts_mass : ∀ (l : List NodeD) (T : Nat), wgtKs l T ≤ 8999 → wgtKs l T = T + masses l
  | [], T, _ => rfl
  | k :: r, T, h => by
    rw [wgtKs] at h ⊢
    split
    · rename_i h1
      rw [if_pos h1] at h
      omega
    · rename_i h1
      rw [if_neg h1] at h
      have h2 := wgts_ge r (k.wgt T)
      rw [wgts_mass r _ h, wgt_mass k T (by omega), masses]
      omega
end
theorem sum_len : ∀ l : List AttrD, l.length ≤ (l.map fun x => 1 + x.sp.size + x.nm.size + x.va.size).sum
  | [] => Nat.le_refl _
  | x :: r => by
    rw [List.map_cons, List.sum_cons, List.length_cons]
    have := sum_len r
    omega
mutual
theorem mass_parts : ∀ n : NodeD, n.wt ≤ n.mass ∧ n.tlen ≤ n.mass
  | .mk _ sp nm al kids tx _ => by
    rw [NodeD.wt, NodeD.tlen, NodeD.mass]
    have h1 := masses_parts kids
    have h2 := sum_len al
    omega
theorem masses_parts : ∀ l : List NodeD, wts l ≤ masses l ∧ tlens l ≤ masses l
  | [] => ⟨Nat.le_refl _, Nat.le_refl _⟩
  | k :: r => by
    rw [wts, tlens, masses]
    have h1 := mass_parts k
    have h2 := masses_parts r
    omega
end
theorem not_large {n : NodeD} (h : ¬ 5000 < n.wgt 0) : n.wt ≤ 5000 ∧ n.tlen ≤ 5000 := by
  have h1 := wgt_mass n 0 (by omega)
  have h2 := mass_parts n
  omega
end Go.Proofs.YtpmkapamlhnmpaaGreatDoor
end
section
namespace Go.Proofs.YtpmkapamlhnmpaaGreatDoor
open Go.RowKit
theorem allEq_strip : ∀ l : List AttrD, allEq false l (l.map zeroA) = true
  | [] => rfl
  | x :: r => by
    rw [List.map_cons, allEq, allEq_strip r, Bool.and_true]
    exact decide_eq_true ⟨rfl, rfl, rfl, fun h => by cases h⟩
theorem stripsN_len (l : List NodeD) : (stripsN l).length = l.length := by rw [stripsN_map, List.length_map]
mutual
theorem eqB_strip : ∀ n : NodeD, n.eqB false (stripN n) = true
  | .mk k s n al kids tx a => by
    rw [NodeD.eqB, stripN]
    have h1 : headEq false (.mk k s n al kids tx a) (.mk k s n (al.map zeroA) (stripsN kids) tx 0) = true := decide_eq_true ⟨rfl, rfl, rfl, rfl, (fun h => by cases h), by show al.length = (al.map zeroA).length; rw [List.length_map], by show kids.length = (stripsN kids).length; rw [stripsN_len]⟩
    rw [h1, Bool.true_and]
    show (allEq false al (al.map zeroA) && eqsB false kids (stripsN kids)) = true
    rw [allEq_strip, eqsB_strip kids]
    rfl
theorem eqsB_strip : ∀ l : List NodeD, eqsB false l (stripsN l) = true
  | [] => rfl
  | k :: r => by rw [stripsN, eqsB, eqB_strip k, eqsB_strip r]; rfl
end
mutual
theorem zero_strip : ∀ n : NodeD, (stripN n).zeroB = true
  | .mk k s n al kids tx a => by
    rw [stripN, NodeD.zeroB, zeros_strip kids]
    have : (al.map zeroA).all (fun x => decide (x.at' = 0)) = true := by
      rw [List.all_eq_true]
      intro x hx
      obtain ⟨y, _, rfl⟩ := List.mem_map.1 hx
      exact decide_eq_true rfl
    rw [this]
    rfl
theorem zeros_strip : ∀ l : List NodeD, zeroBs (stripsN l) = true
  | [] => rfl
  | k :: r => by rw [stripsN, zeroBs, zero_strip k, zeros_strip r]; rfl
end
mutual
theorem wt_strip : ∀ n : NodeD, (stripN n).wt = n.wt
  | .mk k s n al kids tx a => by rw [stripN, NodeD.wt, NodeD.wt, wts_strip kids, List.length_map]
theorem wts_strip : ∀ l : List NodeD, wts (stripsN l) = wts l
  | [] => rfl
  | k :: r => by rw [stripsN, wts, wts, wt_strip k, wts_strip r]
end
def NBox (x : World) (b : Nat) (n : NodeD) (pa : Option Addr) (ca : Nat) (pk : Option Addr) (ck : Nat) : Prop := x.cell? ⟨b, 0, none⟩ = some (.int .i64 n.kind) ∧ x.cell? ⟨b, 1, none⟩ = some (.string n.sp) ∧ x.cell? ⟨b, 2, none⟩ = some (.string n.nm) ∧ x.cell? ⟨b, 3, none⟩ = some (.slice pa n.al.length ca) ∧ x.cell? ⟨b, 4, none⟩ = some (.slice pk n.kids.length ck) ∧ x.cell? ⟨b, 5, none⟩ = some (.string n.tx) ∧ x.cell? ⟨b, 6, none⟩ = some (.int .i64 n.at')
theorem NBox.below {x y : World} {b : Nat} {n : NodeD} {pa : Option Addr} {ca : Nat} {pk : Option Addr} {ck : Nat} (h : NBox x b n pa ca pk ck) (hb : Below x.heap.size x y) : NBox y b n pa ca pk ck := by
  obtain ⟨h0, h1, h2, h3, h4, h5, h6⟩ := h
  exact ⟨(hb.cell (kblock_lt h0)).trans h0, (hb.cell (kblock_lt h1)).trans h1, (hb.cell (kblock_lt h2)).trans h2, (hb.cell (kblock_lt h3)).trans h3, (hb.cell (kblock_lt h4)).trans h4, (hb.cell (kblock_lt h5)).trans h5, (hb.cell (kblock_lt h6)).trans h6⟩
theorem NBox.of {x : World} {b : Nat} {n : NodeD} {pa : Option Addr} {ca : Nat} {pk : Option Addr} {ck : Nat} {T : TypeId} (h : Blk x b #[.int .i64 n.kind, .string n.sp, .string n.nm, .slice pa n.al.length ca, .slice pk n.kids.length ck, .string n.tx, .int .i64 n.at'] T) : NBox x b n pa ca pk ck :=
  ⟨h.cell 0, h.cell 1, h.cell 2, h.cell 3, h.cell 4, h.cell 5, h.cell 6⟩
set_option maxRecDepth 100000 in
set_option maxHeartbeats 32000000 in
theorem walk_TreFunctions (n m : NodeD) (pa : Option Addr) (ca : Nat) (pk : Option Addr) (ck : Nat) (qa : Option Addr) (da : Nat) (qk : Option Addr) (dk : Nat) (w : World) (hT : TokT w) (hn : NodeIs w n (.agg #[.int .i64 n.kind, .string n.sp, .string n.nm, .slice pa n.al.length ca, .slice pk n.kids.length ck, .string n.tx, .int .i64 n.at'])) (hm : NodeIs w m (.agg #[.int .i64 m.kind, .string m.sp, .string m.nm, .slice qa m.al.length da, .slice qk m.kids.length dk, .string m.tx, .int .i64 m.at'])) (hWn : n.WF) (hWm : m.WF) :
    Calls Tryz.prog 4 #[(.agg #[.int .i64 n.kind, .string n.sp, .string n.nm, .slice pa n.al.length ca, .slice pk n.kids.length ck, .string n.tx, .int .i64 n.at']), (.agg #[.int .i64 m.kind, .string m.sp, .string m.nm, .slice qa m.al.length da, .slice qk m.kids.length dk, .string m.tx, .int .i64 m.at'])] w fun e w' => e = .returned (.bool true) ∧ Below w.heap.size w w' := by
  have cA : ∀ wx, TokT wx → _ := fun wx ht => tre_alive wx ht
  have cLn := fun wx h => law_TooLarge n (.agg #[.int .i64 n.kind, .string n.sp, .string n.nm, .slice pa n.al.length ca, .slice pk n.kids.length ck, .string n.tx, .int .i64 n.at']) wx hWn h
  have cLm := fun wx h => law_TooLarge m (.agg #[.int .i64 m.kind, .string m.sp, .string m.nm, .slice qa m.al.length da, .slice qk m.kids.length dk, .string m.tx, .int .i64 m.at']) wx hWm h
  obtain ⟨W2, hW2⟩ : ∃ W2, W2 = (w.alloc (.cells #[.int .i64 n.kind, .string n.sp, .string n.nm, .slice pa n.al.length ca, .slice pk n.kids.length ck, .string n.tx, .int .i64 n.at'] 26)).alloc (.cells #[.int .i64 m.kind, .string m.sp, .string m.nm, .slice qa m.al.length da, .slice qk m.kids.length dk, .string m.tx, .int .i64 m.at'] 26) := ⟨_, rfl⟩
  have b1 : Below w.heap.size w (w.alloc (.cells #[.int .i64 n.kind, .string n.sp, .string n.nm, .slice pa n.al.length ca, .slice pk n.kids.length ck, .string n.tx, .int .i64 n.at'] 26)) := (Below.refl _ _).alloc (Nat.le_refl _) _
  have hz1 : (w.alloc (.cells #[.int .i64 n.kind, .string n.sp, .string n.nm, .slice pa n.al.length ca, .slice pk n.kids.length ck, .string n.tx, .int .i64 n.at'] 26)).heap.size = w.heap.size + 1 := by simp
  have b12 : Below (w.alloc (.cells #[.int .i64 n.kind, .string n.sp, .string n.nm, .slice pa n.al.length ca, .slice pk n.kids.length ck, .string n.tx, .int .i64 n.at'] 26)).heap.size (w.alloc (.cells #[.int .i64 n.kind, .string n.sp, .string n.nm, .slice pa n.al.length ca, .slice pk n.kids.length ck, .string n.tx, .int .i64 n.at'] 26)) W2 := by rw [hW2]; exact (Below.refl _ _).alloc (Nat.le_refl _) _
  have b2 : Below w.heap.size w W2 := b1.trans (b12.mono b1.size)
  have X1 : NBox W2 w.heap.size n pa ca pk ck := (NBox.of (Blk.new w #[.int .i64 n.kind, .string n.sp, .string n.nm, .slice pa n.al.length ca, .slice pk n.kids.length ck, .string n.tx, .int .i64 n.at'] 26)).below b12
  have X2 : NBox W2 (w.heap.size + 1) m qa da qk dk := by
    have := NBox.of (Blk.new (w.alloc (.cells #[.int .i64 n.kind, .string n.sp, .string n.nm, .slice pa n.al.length ca, .slice pk n.kids.length ck, .string n.tx, .int .i64 n.at'] 26)) #[.int .i64 m.kind, .string m.sp, .string m.nm, .slice qa m.al.length da, .slice qk m.kids.length dk, .string m.tx, .int .i64 m.at'] 26)
    rw [hz1] at this
    rw [hW2]
    exact this
  have N2 := NodeIs.below b2 _ _ hn
  have M2 := NodeIs.below b2 _ _ hm
  have t2 := TokT_below hT b2
  have hz2 : W2.heap.size = w.heap.size + 2 := by rw [hW2]; simp
  have HB2 := Lib.hid b2
  obtain ⟨f0, f1, f2, f3, f4, f5, f6⟩ := id X1
  obtain ⟨g0, g1, g2, g3, g4, g5, g6⟩ := id X2
  clear b1 b12 b2 hz1 hn hm hT
  have HX1 := Lib.hid X1
  have HX2 := Lib.hid X2
  clear X1 X2
  have cL1 := cLn _ N2
  clear cLn
  by_cases h1 : 5000 < n.wgt 0
  · rw [decide_eq_true h1, show oneIf true = 1 from rfl] at cL1
    have HC := Lib.hid cL1
    clear h1 cLm M2 N2 HX1 HX2 cL1
    go_enter Tryz.func4, Tryz.ntmps4
    go_upto_region 1 with fail
    simp only [← hW2]
    clear hW2
    have cL1 := HC.out
    go_wp2_with fail
    refine cL1.mono ?_
    rintro e w3 ⟨rfl, b3⟩
    have t3 := TokT_below t2 b3
    go_wp2_with fail
    refine (cA _ t3).mono ?_
    rintro e w4 ⟨rfl, b4⟩
    go_wp2
    go_ret
    exact ⟨rfl, (HB2.out.trans (b3.mono HB2.out.size)).trans (b4.mono (Nat.le_trans HB2.out.size b3.size))⟩
  · rw [decide_eq_false h1, show oneIf false = 0 from rfl] at cL1
    by_cases h2 : 5000 < m.wgt 0
    · have cL2 := fun wx h => cLm wx h
      rw [decide_eq_true h2, show oneIf true = 1 from rfl] at cL2
      have HM2 := Lib.hid M2
      have HC1 := Lib.hid cL1
      clear h1 h2 cLm M2 N2 HX1 cL1
      go_enter Tryz.func4, Tryz.ntmps4
      go_upto_region 1 with fail
      simp only [← hW2]
      clear hW2
      have cL1 := HC1.out
      go_wp2_with fail
      refine cL1.mono ?_
      rintro e w3 ⟨rfl, b3⟩
      have t3 := TokT_below t2 b3
      obtain ⟨k0, k1, k2, k3, k4, k5, k6⟩ := HX2.out.below b3
      have cL3 := cL2 _ (NodeIs.below b3 _ _ HM2.out)
      clear cL1 cL2 HC1
      go_wp2_with fail
      refine cL3.mono ?_
      rintro e w4 ⟨rfl, b4⟩
      have t4 := TokT_below t3 b4
      go_wp2_with fail
      refine (cA _ t4).mono ?_
      rintro e w5 ⟨rfl, b5⟩
      go_wp2
      go_ret
      exact ⟨rfl, ((HB2.out.trans (b3.mono HB2.out.size)).trans (b4.mono (Nat.le_trans HB2.out.size b3.size))).trans (b5.mono (Nat.le_trans HB2.out.size (Nat.le_trans b3.size b4.size)))⟩
    · have cL2 := fun wx h => cLm wx h
      rw [decide_eq_false h2, show oneIf false = 0 from rfl] at cL2
      obtain ⟨sn, tn⟩ := not_large h1
      obtain ⟨sm, tm⟩ := not_large h2
      have wn := wt_split n
      have wm := wt_split m
      have cS := fun wx h => xt_Strip n.cnt n (Nat.le_refl _) (by omega) (by omega) (.agg #[.int .i64 n.kind, .string n.sp, .string n.nm, .slice pa n.al.length ca, .slice pk n.kids.length ck, .string n.tx, .int .i64 n.at']) wx h
      have cT1 := fun wx h => xt_Text n (.agg #[.int .i64 n.kind, .string n.sp, .string n.nm, .slice pa n.al.length ca, .slice pk n.kids.length ck, .string n.tx, .int .i64 n.at']) wx (by omega) (by omega) h
      have cT2 := fun wx h => tref_Text n.cnt n (.agg #[.int .i64 n.kind, .string n.sp, .string n.nm, .slice pa n.al.length ca, .slice pk n.kids.length ck, .string n.tx, .int .i64 n.at']) wx (Nat.le_refl _) (by omega) (by omega) h
      have cD1 := fun wx h => xt_Depth n.cnt n (.agg #[.int .i64 n.kind, .string n.sp, .string n.nm, .slice pa n.al.length ca, .slice pk n.kids.length ck, .string n.tx, .int .i64 n.at']) wx (Nat.le_refl _) (by omega) h
      have cD2 := fun wx h => tref_Depth n.cnt n (.agg #[.int .i64 n.kind, .string n.sp, .string n.nm, .slice pa n.al.length ca, .slice pk n.kids.length ck, .string n.tx, .int .i64 n.at']) wx (Nat.le_refl _) (by omega) h
      have cE1 := fun wx h h' => xt_Equal n.cnt n m (Nat.le_refl _) (by omega) (by omega) (by omega) (.agg #[.int .i64 n.kind, .string n.sp, .string n.nm, .slice pa n.al.length ca, .slice pk n.kids.length ck, .string n.tx, .int .i64 n.at']) (.agg #[.int .i64 m.kind, .string m.sp, .string m.nm, .slice qa m.al.length da, .slice qk m.kids.length dk, .string m.tx, .int .i64 m.at']) wx h h'
      have cE2 := fun wx h h' => tref_Equal false n.wt n m (.agg #[.int .i64 n.kind, .string n.sp, .string n.nm, .slice pa n.al.length ca, .slice pk n.kids.length ck, .string n.tx, .int .i64 n.at']) (.agg #[.int .i64 m.kind, .string m.sp, .string m.nm, .slice qa m.al.length da, .slice qk m.kids.length dk, .string m.tx, .int .i64 m.at']) wx (Nat.le_refl _) (by omega) h h'
      have cE3 := fun wx vx h h' => tref_Equal false n.wt n (stripN n) (.agg #[.int .i64 n.kind, .string n.sp, .string n.nm, .slice pa n.al.length ca, .slice pk n.kids.length ck, .string n.tx, .int .i64 n.at']) vx wx (Nat.le_refl _) (by omega) h h'
      have cZ := fun wx vx h => law_zero (stripN n).wt (stripN n) vx wx (Nat.le_refl _) (by rw [wt_strip]; omega) h
      rw [eqB_strip] at cE3
      rw [zero_strip, show oneIf true = 1 from rfl] at cZ
      have fE : ∀ wx B vx, FreshIs wx B (stripN n) vx → NodeIs wx (stripN n) vx := fun wx B vx h => FreshIs.is _ _ h
      have HN2 := Lib.hid N2
      have HM2 := Lib.hid M2
      have HC1 := Lib.hid cL1
      generalize hxx : stripN n = x at cS cE3 cZ fE
      clear h1 h2 cLm M2 N2 cL1 sn tn sm tm wn wm hWn hWm hxx
      go_enter Tryz.func4, Tryz.ntmps4
      go_upto_region 1 with fail
      simp only [← hW2]
      clear hW2
      have cL1 := HC1.out
      go_wp2_with fail
      refine cL1.mono ?_
      rintro e w3 ⟨rfl, b3⟩
      have t3 := TokT_below t2 b3
      obtain ⟨k0, k1, k2, k3, k4, k5, k6⟩ := HX2.out.below b3
      have cL3 := cL2 _ (NodeIs.below b3 _ _ HM2.out)
      clear cL1 cL2 HC1 f0 f1 f2 f3 f4 f5 f6 g0 g1 g2 g3 g4 g5 g6
      go_wp2_with fail
      refine cL3.mono ?_
      rintro e w4 ⟨rfl, b4⟩
      have t4 := TokT_below t3 b4
      have b34 := b3.trans (b4.mono b3.size)
      obtain ⟨f0, f1, f2, f3, f4, f5, f6⟩ := HX1.out.below b34
      have N4 := NodeIs.below b34 _ _ HN2.out
      have cS4 := cS _ N4
      clear cS cL3 k0 k1 k2 k3 k4 k5 k6
      go_wp2_with fail
      refine cS4.mono ?_
      rintro e w5 ⟨v5, rfl, F5, b5⟩
      have b35 := b34.trans (b5.mono b34.size)
      have R5 := fE _ _ _ F5
      obtain ⟨ra, ea, rk, ek, rfl⟩ := node_form R5
      obtain ⟨W6, hW6⟩ : ∃ W6, W6 = w5.alloc (.cells #[.int .i64 x.kind, .string x.sp, .string x.nm, .slice ra x.al.length ea, .slice rk x.kids.length ek, .string x.tx, .int .i64 x.at'] 26) := ⟨_, rfl⟩
      have b6 : Below w5.heap.size w5 W6 := by rw [hW6]; exact (Below.refl _ _).alloc (Nat.le_refl _) _
      have X3 : NBox W6 w5.heap.size x ra ea rk ek := by rw [hW6]; exact NBox.of (Blk.new w5 #[.int .i64 x.kind, .string x.sp, .string x.nm, .slice ra x.al.length ea, .slice rk x.kids.length ek, .string x.tx, .int .i64 x.at'] 26)
      have b36 := b35.trans (b6.mono b35.size)
      have Y1 := HX1.out.below b36
      have Y2 := HX2.out.below b36
      have N6 := NodeIs.below b36 _ _ HN2.out
      have M6 := NodeIs.below b36 _ _ HM2.out
      have R6 := NodeIs.below b6 _ _ R5
      have t6 := TokT_below t2 b36
      have B6 := HB2.out.trans (b36.mono HB2.out.size)
      clear b3 b34 b35 b4 b5 t3 t4 F5 R5 N4 cS4 fE f0 f1 f2 f3 f4 f5 f6
      go_upto_region 4 with fail
      simp only [← hW6]
      clear hW6 b6
      generalize w5.heap.size = hx3 at X3 ⊢
      have hz : w.heap.size + 1 = w.heap.size + 1 := rfl
      generalize w.heap.size + 1 = hs1 at Y2 ⊢
      have HB6 := Lib.hid B6
      clear B6 hz2 t2 HX1 HX2 HN2 HM2 HB2 b36
      generalize w.heap.size = hs at Y1 ⊢
      obtain ⟨f0, f1, f2, f3, f4, f5, f6⟩ := Y1
      obtain ⟨g0, g1, g2, g3, g4, g5, g6⟩ := Y2
      obtain ⟨h0, h1, h2, h3, h4, h5, h6⟩ := X3
      have S0 : (W6.drew.cell? ⟨hs, 0, none⟩ = some (.int .i64 n.kind) ∧ W6.drew.cell? ⟨hs, 1, none⟩ = some (.string n.sp) ∧ W6.drew.cell? ⟨hs, 2, none⟩ = some (.string n.nm) ∧ W6.drew.cell? ⟨hs, 3, none⟩ = some (.slice pa n.al.length ca) ∧ W6.drew.cell? ⟨hs, 4, none⟩ = some (.slice pk n.kids.length ck) ∧ W6.drew.cell? ⟨hs, 5, none⟩ = some (.string n.tx) ∧ W6.drew.cell? ⟨hs, 6, none⟩ = some (.int .i64 n.at') ∧ W6.drew.cell? ⟨hs1, 0, none⟩ = some (.int .i64 m.kind) ∧ W6.drew.cell? ⟨hs1, 1, none⟩ = some (.string m.sp) ∧ W6.drew.cell? ⟨hs1, 2, none⟩ = some (.string m.nm) ∧ W6.drew.cell? ⟨hs1, 3, none⟩ = some (.slice qa m.al.length da) ∧ W6.drew.cell? ⟨hs1, 4, none⟩ = some (.slice qk m.kids.length dk) ∧ W6.drew.cell? ⟨hs1, 5, none⟩ = some (.string m.tx) ∧ W6.drew.cell? ⟨hs1, 6, none⟩ = some (.int .i64 m.at') ∧ W6.drew.cell? ⟨hx3, 0, none⟩ = some (.int .i64 x.kind) ∧ W6.drew.cell? ⟨hx3, 1, none⟩ = some (.string x.sp) ∧ W6.drew.cell? ⟨hx3, 2, none⟩ = some (.string x.nm) ∧ W6.drew.cell? ⟨hx3, 3, none⟩ = some (.slice ra x.al.length ea) ∧ W6.drew.cell? ⟨hx3, 4, none⟩ = some (.slice rk x.kids.length ek) ∧ W6.drew.cell? ⟨hx3, 5, none⟩ = some (.string x.tx) ∧ W6.drew.cell? ⟨hx3, 6, none⟩ = some (.int .i64 x.at')) := ⟨f0, f1, f2, f3, f4, f5, f6, g0, g1, g2, g3, g4, g5, g6, h0, h1, h2, h3, h4, h5, h6⟩
      have hSB : ∀ x1 x2 : World, Below x1.heap.size x1 x2 → (x1.cell? ⟨hs, 0, none⟩ = some (.int .i64 n.kind) ∧ x1.cell? ⟨hs, 1, none⟩ = some (.string n.sp) ∧ x1.cell? ⟨hs, 2, none⟩ = some (.string n.nm) ∧ x1.cell? ⟨hs, 3, none⟩ = some (.slice pa n.al.length ca) ∧ x1.cell? ⟨hs, 4, none⟩ = some (.slice pk n.kids.length ck) ∧ x1.cell? ⟨hs, 5, none⟩ = some (.string n.tx) ∧ x1.cell? ⟨hs, 6, none⟩ = some (.int .i64 n.at') ∧ x1.cell? ⟨hs1, 0, none⟩ = some (.int .i64 m.kind) ∧ x1.cell? ⟨hs1, 1, none⟩ = some (.string m.sp) ∧ x1.cell? ⟨hs1, 2, none⟩ = some (.string m.nm) ∧ x1.cell? ⟨hs1, 3, none⟩ = some (.slice qa m.al.length da) ∧ x1.cell? ⟨hs1, 4, none⟩ = some (.slice qk m.kids.length dk) ∧ x1.cell? ⟨hs1, 5, none⟩ = some (.string m.tx) ∧ x1.cell? ⟨hs1, 6, none⟩ = some (.int .i64 m.at') ∧ x1.cell? ⟨hx3, 0, none⟩ = some (.int .i64 x.kind) ∧ x1.cell? ⟨hx3, 1, none⟩ = some (.string x.sp) ∧ x1.cell? ⟨hx3, 2, none⟩ = some (.string x.nm) ∧ x1.cell? ⟨hx3, 3, none⟩ = some (.slice ra x.al.length ea) ∧ x1.cell? ⟨hx3, 4, none⟩ = some (.slice rk x.kids.length ek) ∧ x1.cell? ⟨hx3, 5, none⟩ = some (.string x.tx) ∧ x1.cell? ⟨hx3, 6, none⟩ = some (.int .i64 x.at')) → (x2.cell? ⟨hs, 0, none⟩ = some (.int .i64 n.kind) ∧ x2.cell? ⟨hs, 1, none⟩ = some (.string n.sp) ∧ x2.cell? ⟨hs, 2, none⟩ = some (.string n.nm) ∧ x2.cell? ⟨hs, 3, none⟩ = some (.slice pa n.al.length ca) ∧ x2.cell? ⟨hs, 4, none⟩ = some (.slice pk n.kids.length ck) ∧ x2.cell? ⟨hs, 5, none⟩ = some (.string n.tx) ∧ x2.cell? ⟨hs, 6, none⟩ = some (.int .i64 n.at') ∧ x2.cell? ⟨hs1, 0, none⟩ = some (.int .i64 m.kind) ∧ x2.cell? ⟨hs1, 1, none⟩ = some (.string m.sp) ∧ x2.cell? ⟨hs1, 2, none⟩ = some (.string m.nm) ∧ x2.cell? ⟨hs1, 3, none⟩ = some (.slice qa m.al.length da) ∧ x2.cell? ⟨hs1, 4, none⟩ = some (.slice qk m.kids.length dk) ∧ x2.cell? ⟨hs1, 5, none⟩ = some (.string m.tx) ∧ x2.cell? ⟨hs1, 6, none⟩ = some (.int .i64 m.at') ∧ x2.cell? ⟨hx3, 0, none⟩ = some (.int .i64 x.kind) ∧ x2.cell? ⟨hx3, 1, none⟩ = some (.string x.sp) ∧ x2.cell? ⟨hx3, 2, none⟩ = some (.string x.nm) ∧ x2.cell? ⟨hx3, 3, none⟩ = some (.slice ra x.al.length ea) ∧ x2.cell? ⟨hx3, 4, none⟩ = some (.slice rk x.kids.length ek) ∧ x2.cell? ⟨hx3, 5, none⟩ = some (.string x.tx) ∧ x2.cell? ⟨hx3, 6, none⟩ = some (.int .i64 x.at')) := by
        intro x1 x2 hb h
        obtain ⟨z0, z1, z2, z3, z4, z5, z6, z7, z8, z9, z10, z11, z12, z13, z14, z15, z16, z17, z18, z19, z20⟩ := h
        exact ⟨(hb.cell (kblock_lt z0)).trans z0, (hb.cell (kblock_lt z1)).trans z1, (hb.cell (kblock_lt z2)).trans z2, (hb.cell (kblock_lt z3)).trans z3, (hb.cell (kblock_lt z4)).trans z4, (hb.cell (kblock_lt z5)).trans z5, (hb.cell (kblock_lt z6)).trans z6, (hb.cell (kblock_lt z7)).trans z7, (hb.cell (kblock_lt z8)).trans z8, (hb.cell (kblock_lt z9)).trans z9, (hb.cell (kblock_lt z10)).trans z10, (hb.cell (kblock_lt z11)).trans z11, (hb.cell (kblock_lt z12)).trans z12, (hb.cell (kblock_lt z13)).trans z13, (hb.cell (kblock_lt z14)).trans z14, (hb.cell (kblock_lt z15)).trans z15, (hb.cell (kblock_lt z16)).trans z16, (hb.cell (kblock_lt z17)).trans z17, (hb.cell (kblock_lt z18)).trans z18, (hb.cell (kblock_lt z19)).trans z19, (hb.cell (kblock_lt z20)).trans z20⟩
      have N0 : (NodeIs W6.drew n (.agg #[.int .i64 n.kind, .string n.sp, .string n.nm, .slice pa n.al.length ca, .slice pk n.kids.length ck, .string n.tx, .int .i64 n.at']) ∧ NodeIs W6.drew m (.agg #[.int .i64 m.kind, .string m.sp, .string m.nm, .slice qa m.al.length da, .slice qk m.kids.length dk, .string m.tx, .int .i64 m.at']) ∧ NodeIs W6.drew x (.agg #[.int .i64 x.kind, .string x.sp, .string x.nm, .slice ra x.al.length ea, .slice rk x.kids.length ek, .string x.tx, .int .i64 x.at']) ∧ Below w.heap.size w W6.drew) := ⟨NodeIs.below (Below.drew (Below.refl _ _)) _ _ N6, NodeIs.below (Below.drew (Below.refl _ _)) _ _ M6, NodeIs.below (Below.drew (Below.refl _ _)) _ _ R6, HB6.out.drew⟩
      have hNB : ∀ x1 x2 : World, Below x1.heap.size x1 x2 → (NodeIs x1 n (.agg #[.int .i64 n.kind, .string n.sp, .string n.nm, .slice pa n.al.length ca, .slice pk n.kids.length ck, .string n.tx, .int .i64 n.at']) ∧ NodeIs x1 m (.agg #[.int .i64 m.kind, .string m.sp, .string m.nm, .slice qa m.al.length da, .slice qk m.kids.length dk, .string m.tx, .int .i64 m.at']) ∧ NodeIs x1 x (.agg #[.int .i64 x.kind, .string x.sp, .string x.nm, .slice ra x.al.length ea, .slice rk x.kids.length ek, .string x.tx, .int .i64 x.at']) ∧ Below w.heap.size w x1) → (NodeIs x2 n (.agg #[.int .i64 n.kind, .string n.sp, .string n.nm, .slice pa n.al.length ca, .slice pk n.kids.length ck, .string n.tx, .int .i64 n.at']) ∧ NodeIs x2 m (.agg #[.int .i64 m.kind, .string m.sp, .string m.nm, .slice qa m.al.length da, .slice qk m.kids.length dk, .string m.tx, .int .i64 m.at']) ∧ NodeIs x2 x (.agg #[.int .i64 x.kind, .string x.sp, .string x.nm, .slice ra x.al.length ea, .slice rk x.kids.length ek, .string x.tx, .int .i64 x.at']) ∧ Below w.heap.size w x2) := fun x1 x2 hb h => ⟨NodeIs.below hb _ _ h.1, NodeIs.below hb _ _ h.2.1, NodeIs.below hb _ _ h.2.2.1, h.2.2.2.trans (hb.mono h.2.2.2.size)⟩
      have t0 := TokT_below t6 (Below.refl _ _).drew
      clear N6 M6 R6 t6 f0 f1 f2 f3 f4 f5 f6 g0 g1 g2 g3 g4 g5 g6 h0 h1 h2 h3 h4 h5 h6
      generalize n.text = nt at cT1 cT2
      generalize n.depth = nd at cD1 cD2
      generalize n.eqB false m = nq at cE1 cE2
      try simp only [List.append_eq, List.cons_append, List.nil_append]
      go_region_held3 (fun w' => (w'.cell? ⟨hs, 0, none⟩ = some (.int .i64 n.kind) ∧ w'.cell? ⟨hs, 1, none⟩ = some (.string n.sp) ∧ w'.cell? ⟨hs, 2, none⟩ = some (.string n.nm) ∧ w'.cell? ⟨hs, 3, none⟩ = some (.slice pa n.al.length ca) ∧ w'.cell? ⟨hs, 4, none⟩ = some (.slice pk n.kids.length ck) ∧ w'.cell? ⟨hs, 5, none⟩ = some (.string n.tx) ∧ w'.cell? ⟨hs, 6, none⟩ = some (.int .i64 n.at') ∧ w'.cell? ⟨hs1, 0, none⟩ = some (.int .i64 m.kind) ∧ w'.cell? ⟨hs1, 1, none⟩ = some (.string m.sp) ∧ w'.cell? ⟨hs1, 2, none⟩ = some (.string m.nm) ∧ w'.cell? ⟨hs1, 3, none⟩ = some (.slice qa m.al.length da) ∧ w'.cell? ⟨hs1, 4, none⟩ = some (.slice qk m.kids.length dk) ∧ w'.cell? ⟨hs1, 5, none⟩ = some (.string m.tx) ∧ w'.cell? ⟨hs1, 6, none⟩ = some (.int .i64 m.at') ∧ w'.cell? ⟨hx3, 0, none⟩ = some (.int .i64 x.kind) ∧ w'.cell? ⟨hx3, 1, none⟩ = some (.string x.sp) ∧ w'.cell? ⟨hx3, 2, none⟩ = some (.string x.nm) ∧ w'.cell? ⟨hx3, 3, none⟩ = some (.slice ra x.al.length ea) ∧ w'.cell? ⟨hx3, 4, none⟩ = some (.slice rk x.kids.length ek) ∧ w'.cell? ⟨hx3, 5, none⟩ = some (.string x.tx) ∧ w'.cell? ⟨hx3, 6, none⟩ = some (.int .i64 x.at'))) (first | with_reducible exact S9 | with_reducible exact S8 | with_reducible exact S7 | with_reducible exact S6 | with_reducible exact S5 | with_reducible exact S4 | with_reducible exact S3 | with_reducible exact S2 | with_reducible exact S1 | with_reducible exact S0) (first | (go_at_call 9; refine (cA _ t0).mono ?_; rintro e y1 ⟨rfl, b1⟩; have S1 := hSB _ _ b1 S0; have N1 := hNB _ _ b1 N0) | (go_at_call 15; refine (cT1 _ N1.1).mono ?_; rintro e y2 ⟨rfl, b2⟩; have S2 := hSB _ _ b2 S1; have N2 := hNB _ _ b2 N1) | (go_at_call 16; refine (cT2 _ N2.1).mono ?_; rintro e y3 ⟨rfl, b3⟩; have S3 := hSB _ _ b3 S2; have N3 := hNB _ _ b3 N2) | (go_at_call 17; refine (cD1 _ N3.1).mono ?_; rintro e y4 ⟨rfl, b4⟩; have S4 := hSB _ _ b4 S3; have N4 := hNB _ _ b4 N3) | (go_at_call 18; refine (cD2 _ N4.1).mono ?_; rintro e y5 ⟨rfl, b5⟩; have S5 := hSB _ _ b5 S4; have N5 := hNB _ _ b5 N4) | (go_at_call 19; refine (cE1 _ N5.1 N5.2.1).mono ?_; rintro e y6 ⟨rfl, b6⟩; have S6 := hSB _ _ b6 S5; have N6 := hNB _ _ b6 N5) | (go_at_call 12; refine (cE3 _ _ N7.1 N7.2.2.1).mono ?_; rintro e y8 ⟨rfl, b8⟩; have S8 := hSB _ _ b8 S7; have N8 := hNB _ _ b8 N7) | (go_at_call 12; refine (cE2 _ N6.1 N6.2.1).mono ?_; rintro e y7 ⟨rfl, b7⟩; have S7 := hSB _ _ b7 S6; have N7 := hNB _ _ b7 N6) | (go_at_call 20; refine (cZ _ _ N8.2.2.1).mono ?_; rintro e y9 ⟨rfl, b9⟩; have S9 := hSB _ _ b9 S8; have N9 := hNB _ _ b9 N8))
      all_goals
        go_wp2
        go_ret
        exact ⟨by simp, N9.2.2.2⟩
end Go.Proofs.YtpmkapamlhnmpaaGreatDoor
end
section
namespace Go.Proofs.YtpmkapamlhnmpaaGreatDoor
open Go.RowKit Go.Deep
section
variable {H : Type} {enc : TypeId × Value → H} {w : World} {base : Nat} {spare : Nat → Bool} {held : Bool}
def Sz (P : Program) (t : TypeId) (d : DataW H) : Prop := ∀ z ∈ d.weights P t, z ≤ reachBytes
theorem Sz.part {P : Program} {t : TypeId} {fs : Array Field} {xs : List (DataW H × List MemPlace)} (he : P.underlying t = some (.struct fs)) (h : Sz P t (.agg (xs.map (·.1)))) {j : Nat} {f : Field} {y : DataW H × List MemPlace} (hf : fs[j]? = some f) (hy : xs[j]? = some y) : Sz P f.type y.1 := by
  intro z hz
  apply h z
  rw [DataW.weights, he]
  exact DataW.weights_mem_each (j := j) (t := f.type) (by simp [hf]) (by simp [hy]) z hz
theorem weights_mem_all {P : Program} {e : TypeId} : ∀ (ds : List (DataW H)) (i : Nat) (d : DataW H), ds[i]? = some d → ∀ z ∈ d.weights P e, z ∈ DataW.weightsAll P e ds
  | [], i, d, h, _, _ => by simp at h
  | x :: r, 0, d, h, z, hz => by
    obtain rfl : x = d := by simpa using h
    rw [DataW.weightsAll]
    exact List.mem_append_left _ hz
  | x :: r, i + 1, d, h, z, hz => by
    rw [DataW.weightsAll]
    exact List.mem_append_right _ (weights_mem_all r i d (by simpa using h) z hz)
theorem Sz.elem {P : Program} {t e : TypeId} {xs ys : List (DataW H × List MemPlace)} (he : P.underlying t = some (.slice e)) (h : Sz P t (.slice (xs.map (·.1)) (ys.map (·.1)))) {j : Nat} {y : DataW H × List MemPlace} (hy : xs[j]? = some y) : Sz P e y.1 := by
  intro z hz
  apply h z
  rw [DataW.weights, he]
  exact List.mem_cons_of_mem _ (List.mem_append_left _ (weights_mem_all _ j _ (by simp [hy]) z hz))
theorem Sz.len {P : Program} {t e : TypeId} {xs ys : List (DataW H × List MemPlace)} (he : P.underlying t = some (.slice e)) (hb : 0 < P.bytesOf e) (h : Sz P t (.slice (xs.map (·.1)) (ys.map (·.1)))) : xs.length ≤ 140737488351232 := by
  have := h ((xs.length + ys.length) * P.bytesOf e) (by rw [DataW.weights, he]; simp)
  have h2 : (xs.length + ys.length) * 1 ≤ (xs.length + ys.length) * P.bytesOf e := Nat.mul_le_mul_left _ hb
  have h3 : reachBytes = 140737488351232 := rfl
  omega
theorem open_cells {P : Program} {t : TypeId} {fs : Array Field} {fuel : Nat} {cs : List Value} {x : DataW H × List MemPlace} (he : P.underlying t = some (.struct fs))
    (hone : oneCellFields P fs = true) (hC : P.cellsOf t = fs.size) (h : DataW.trod enc P w base spare held fuel t cs = some x) :
    ∃ n, fuel = n + 1 ∧ cs.length = fs.size ∧ ∀ (j : Nat) (f : Field), fs[j]? = some f → ∃ v y, cs[j]? = some v ∧ DataW.trod enc P w base spare held n f.type [v] = some y ∧ (Sz P t x.1 → Sz P f.type y.1) := by
  obtain ⟨ys, n, hn, rfl, hlen, hyl, hf⟩ := DataW.trod_struct he h
  refine ⟨n, hn, hlen.trans hC, fun j f hj => ?_⟩
  obtain ⟨ho, hk⟩ := hone_of hone j f hj
  have hjl : j < fs.size := (Array.getElem?_eq_some_iff.1 hj).1
  have h1 := hf j f hj
  rw [ho, hk, List.drop_eq_getElem_cons (by omega), List.take_succ_cons, List.take_zero] at h1
  have hy : ys[j]? = some (ys[j]'(by omega)) := List.getElem?_eq_getElem (by omega)
  exact ⟨_, _, List.getElem?_eq_getElem (by omega), h1.trans hy, fun hs => Sz.part he hs hj hy⟩
set_option maxRecDepth 100000 in
theorem attr_fields : ∃ f0 f1 f2 f3 : Field, Tryz.prog.underlying 42 = some (.struct #[f0, f1, f2, f3]) ∧ f0.type = 9 ∧ f1.type = 9 ∧ f2.type = 9 ∧ f3.type = 3 ∧ oneCellFields Tryz.prog #[f0, f1, f2, f3] = true ∧ Tryz.prog.cellsOf 42 = 4 := by
  obtain ⟨fs, hS, hF, ho, hC⟩ : ∃ fs : Array Field, Tryz.prog.underlying 42 = some (.struct fs) ∧ fs.toList.map Field.type = [9, 9, 9, 3] ∧ oneCellFields Tryz.prog fs = true ∧ Tryz.prog.cellsOf 42 = 4 := ⟨Tryz.prog.fieldsOf 42, by kernel_rfl, by kernel_rfl, by kernel_rfl, by kernel_rfl⟩
  obtain ⟨l⟩ := fs
  match l, hF with
  | [f0, f1, f2, f3], hF =>
    simp only [List.map_cons, List.map_nil, List.cons.injEq, and_true] at hF
    obtain ⟨h0, h1, h2, h3⟩ := hF
    exact ⟨f0, f1, f2, f3, hS, h0, h1, h2, h3, ho, hC⟩
set_option maxRecDepth 100000 in
theorem node_fields : ∃ f0 f1 f2 f3 f4 f5 f6 : Field, Tryz.prog.underlying 26 = some (.struct #[f0, f1, f2, f3, f4, f5, f6]) ∧ f0.type = 3 ∧ f1.type = 9 ∧ f2.type = 9 ∧ f3.type = 23 ∧ f4.type = 24 ∧ f5.type = 9 ∧ f6.type = 3 ∧ oneCellFields Tryz.prog #[f0, f1, f2, f3, f4, f5, f6] = true ∧ Tryz.prog.cellsOf 26 = 7 := by
  obtain ⟨fs, hS, hF, ho, hC⟩ : ∃ fs : Array Field, Tryz.prog.underlying 26 = some (.struct fs) ∧ fs.toList.map Field.type = [3, 9, 9, 23, 24, 9, 3] ∧ oneCellFields Tryz.prog fs = true ∧ Tryz.prog.cellsOf 26 = 7 := ⟨Tryz.prog.fieldsOf 26, by kernel_rfl, by kernel_rfl, by kernel_rfl, by kernel_rfl⟩
  obtain ⟨l⟩ := fs
  match l, hF with
  | [f0, f1, f2, f3, f4, f5, f6], hF =>
    simp only [List.map_cons, List.map_nil, List.cons.injEq, and_true] at hF
    obtain ⟨h0, h1, h2, h3, h4, h5, h6⟩ := hF
    exact ⟨f0, f1, f2, f3, f4, f5, f6, hS, h0, h1, h2, h3, h4, h5, h6, ho, hC⟩
theorem open_attr {fuel : Nat} {cs : List Value} {x : DataW H × List MemPlace} (h : DataW.trod enc Tryz.prog w base spare held fuel 42 cs = some x) : ∃ a : AttrD, cs = [.string a.sp, .string a.nm, .string a.va, .int .i64 a.at'] := by
  obtain ⟨f0, f1, f2, f3, hS, t0, t1, t2, t3, ho, hC⟩ := attr_fields
  obtain ⟨n, -, hl, hf⟩ := open_cells hS ho hC h
  match cs, hl with
  | [c0, c1, c2, c3], _ =>
    obtain ⟨v0, y0, e0, g0, -⟩ := hf 0 f0 rfl
    obtain ⟨v1, y1, e1, g1, -⟩ := hf 1 f1 rfl
    obtain ⟨v2, y2, e2, g2, -⟩ := hf 2 f2 rfl
    obtain ⟨v3, y3, e3, g3, -⟩ := hf 3 f3 rfl
    cases e0; cases e1; cases e2; cases e3
    rw [t0] at g0; rw [t1] at g1; rw [t2] at g2; rw [t3] at g3
    obtain ⟨s0, h0, -, -⟩ := DataW.trod_string Tryz.underlying9 g0
    obtain ⟨s1, h1, -, -⟩ := DataW.trod_string Tryz.underlying9 g1
    obtain ⟨s2, h2, -, -⟩ := DataW.trod_string Tryz.underlying9 g2
    obtain ⟨k3, h3, -, -⟩ := DataW.trod_int Tryz.underlying3 g3
    cases h0; cases h1; cases h2; cases h3
    exact ⟨⟨s0, s1, s2, k3⟩, rfl⟩
theorem choose_list {α : Type} (len : Nat) (p : Nat → α → Prop) (h : ∀ i, i < len → ∃ a, p i a) : ∃ l : List α, l.length = len ∧ ∀ i (hi : i < l.length), p i l[i] := by
  induction len with
  | zero => exact ⟨[], rfl, fun i hi => absurd hi (Nat.not_lt_zero _)⟩
  | succ k ih =>
    obtain ⟨l, hl, hp⟩ := ih fun i hi => h i (by omega)
    obtain ⟨a, ha⟩ := h k (by omega)
    refine ⟨l ++ [a], by rw [List.length_append, hl]; rfl, fun i hi => ?_⟩
    rw [List.length_append, hl] at hi
    by_cases h' : i < l.length
    · rw [List.getElem_append_left h']
      exact hp i h'
    · have : i = k := by simp at hi; omega
      subst this
      rw [List.getElem_append_right (by omega)]
      simpa [hl] using ha
theorem open_attrs {fuel : Nat} {v : Value} {x : DataW H × List MemPlace} (h : DataW.trod enc Tryz.prog w base spare held fuel 23 [v] = some x) (hz : Sz Tryz.prog 23 x.1) : ∃ p c al, v = .slice p al.length c ∧ AttrsAt w p al ∧ al.length ≤ 140737488351232 := by
  obtain ⟨-, -, -, -, -, -, -, -, -, -, hC⟩ := attr_fields
  have hu : Tryz.prog.underlying 23 = some (.slice 42) := by kernel_rfl
  rcases DataW.trod_slice hu h with ⟨hv, -⟩ | ⟨a, len, cap, elems, rest, n, -, hv, rfl, hb, hl, hm, he, hE, -, -⟩
  · cases hv
    exact ⟨none, 0, [], rfl, (fun i hi => absurd hi (Nat.not_lt_zero _)), by simp⟩
  · cases hv
    rw [hC] at hE
    obtain ⟨al, hal, hat⟩ := choose_list len (fun i (y : AttrD) => w.cell? (a.add (i * 4)) = some (.string y.sp) ∧ w.cell? ((a.add (i * 4)).add 1) = some (.string y.nm) ∧ w.cell? ((a.add (i * 4)).add 2) = some (.string y.va) ∧ w.cell? ((a.add (i * 4)).add 3) = some (.int .i64 y.at')) (fun i hi => by
      have h1 := hE i hi
      rw [List.getElem?_eq_getElem (by omega)] at h1
      obtain ⟨cs, hc, ht⟩ := Option.bind_eq_some_iff.1 h1
      obtain ⟨y, rfl⟩ := open_attr ht
      obtain ⟨-, -, hg⟩ := World.cells?_some hc
      exact ⟨y, hg 0 (by omega), by simpa using hg 1 (by omega), by simpa using hg 2 (by omega), by simpa using hg 3 (by omega)⟩)
    refine ⟨some a, cap, al, by rw [hal], fun i hi => ⟨a, rfl, hat i hi⟩, ?_⟩
    rw [hal, ← he]
    exact Sz.len hu (by decide +kernel) hz
theorem kids_at {p : Addr} : ∀ (l : List NodeD) (j : Nat), (∀ i (hi : i < l.length), ∃ cs, w.cells? base (p.add ((j + i) * 7)) 7 = some cs ∧ NodeIs w l[i] (.agg cs.toArray)) → KidsAt w (some p) j l
  | [], j, _ => by rw [KidsAt]; trivial
  | k :: r, j, h => by
    rw [KidsAt]
    refine ⟨?_, kids_at r (j + 1) fun i hi => ?_⟩
    · obtain ⟨cs, hc, hn⟩ := h 0 (by simp)
      obtain ⟨-, hl, hg⟩ := World.cells?_some hc
      match cs, hl with
      | [v0, v1, v2, v3, v4, v5, v6], _ =>
        exact ⟨p, v0, v1, v2, v3, v4, v5, v6, rfl, ⟨hg 0 (by omega), by simpa using hg 1 (by omega), by simpa using hg 2 (by omega), by simpa using hg 3 (by omega), by simpa using hg 4 (by omega), by simpa using hg 5 (by omega), by simpa using hg 6 (by omega)⟩, hn⟩
    · obtain ⟨cs, hc, hn⟩ := h (i + 1) (by simpa using hi)
      exact ⟨cs, by rw [show j + 1 + i = j + (i + 1) by omega]; exact hc, hn⟩
theorem wfs_all : ∀ l : List NodeD, (∀ i (hi : i < l.length), l[i].WF) → WFs l
  | [], _ => by rw [WFs]; trivial
  | k :: r, h => by
    rw [WFs]
    exact ⟨h 0 (by simp), wfs_all r fun i hi => h (i + 1) (by simpa using hi)⟩
theorem open_node : ∀ (fuel : Nat) (cs : List Value) (x : DataW H × List MemPlace), DataW.trod enc Tryz.prog w base spare held fuel 26 cs = some x → Sz Tryz.prog 26 x.1 → ∃ n : NodeD, NodeIs w n (.agg cs.toArray) ∧ n.WF := by
  intro fuel
  induction fuel using Nat.strongRecOn with
  | ind fuel ih =>
    intro cs x h hz
    obtain ⟨f0, f1, f2, f3, f4, f5, f6, hS, t0, t1, t2, t3, t4, t5, t6, ho, hC⟩ := node_fields
    obtain ⟨n, hn, hl, hf⟩ := open_cells hS ho hC h
    match cs, hl with
    | [c0, c1, c2, c3, c4, c5, c6], _ =>
      obtain ⟨v0, y0, e0, g0, -⟩ := hf 0 f0 rfl
      obtain ⟨v1, y1, e1, g1, -⟩ := hf 1 f1 rfl
      obtain ⟨v2, y2, e2, g2, -⟩ := hf 2 f2 rfl
      obtain ⟨v3, y3, e3, g3, z3⟩ := hf 3 f3 rfl
      obtain ⟨v4, y4, e4, g4, z4⟩ := hf 4 f4 rfl
      obtain ⟨v5, y5, e5, g5, -⟩ := hf 5 f5 rfl
      obtain ⟨v6, y6, e6, g6, -⟩ := hf 6 f6 rfl
      cases e0; cases e1; cases e2; cases e3; cases e4; cases e5; cases e6
      rw [t0] at g0; rw [t1] at g1; rw [t2] at g2; rw [t3] at g3 z3; rw [t4] at g4 z4; rw [t5] at g5; rw [t6] at g6
      obtain ⟨k0, h0, -, -⟩ := DataW.trod_int Tryz.underlying3 g0
      obtain ⟨s1, h1, -, -⟩ := DataW.trod_string Tryz.underlying9 g1
      obtain ⟨s2, h2, -, -⟩ := DataW.trod_string Tryz.underlying9 g2
      obtain ⟨pa, ca, al, h3, ha, hla⟩ := open_attrs g3 (z3 hz)
      obtain ⟨s5, h5, -, -⟩ := DataW.trod_string Tryz.underlying9 g5
      obtain ⟨k6, h6, -, -⟩ := DataW.trod_int Tryz.underlying3 g6
      cases h0; cases h1; cases h2; cases h3; cases h5; cases h6
      have hu : Tryz.prog.underlying 24 = some (.slice 26) := by kernel_rfl
      have z4' := z4 hz
      rcases DataW.trod_slice hu g4 with ⟨hv, -⟩ | ⟨a, len, cap, elems, rest, n', hn', hv, rfl, hb, hle, hm, he, hE, -, -⟩
      · cases hv
        refine ⟨.mk k0 s1 s2 al [] s5 k6, ?_, ?_⟩
        · rw [NodeIs]
          exact ⟨pa, ca, none, 0, rfl, ha, by rw [KidsAt]; trivial⟩
        · rw [NodeD.WF, WFs]
          exact ⟨hla, by simp, trivial⟩
      · cases hv
        rw [hC] at hE
        obtain ⟨kids, hk, hkt⟩ := choose_list len (fun i (y : NodeD) => (∃ cs, w.cells? base (a.add (i * 7)) 7 = some cs ∧ NodeIs w y (.agg cs.toArray)) ∧ y.WF) (fun i hi => by
          have h1 := hE i hi
          rw [List.getElem?_eq_getElem (by omega)] at h1
          obtain ⟨cs, hc, ht⟩ := Option.bind_eq_some_iff.1 h1
          obtain ⟨y, hy, hw⟩ := ih n' (by omega) _ _ ht (Sz.elem hu z4' (List.getElem?_eq_getElem (by omega)))
          exact ⟨y, ⟨cs, hc, hy⟩, hw⟩)
        refine ⟨.mk k0 s1 s2 al kids s5 k6, ?_, ?_⟩
        · rw [NodeIs]
          refine ⟨pa, ca, some a, cap, by rw [hk], ha, kids_at (base := base) kids 0 fun i hi => ?_⟩
          rw [Nat.zero_add]
          exact (hkt i hi).1
        · rw [NodeD.WF]
          refine ⟨hla, ?_, wfs_all kids fun i hi => (hkt i hi).2⟩
          rw [hk, ← he]
          exact Sz.len hu (by decide +kernel) z4'
end
end Go.Proofs.YtpmkapamlhnmpaaGreatDoor
end
section
namespace Go.Proofs.YtpmkapamlhnmpaaGreatDoor
open Go.RowKit Go.Lib Go.ChangeShapes Go.WideShapes Go.ChangeAt
open Go.ChangeMaps (open_string shut_string)
theorem ownTF : ownKnob Tryz.prog.godebug = none := by kernel_rfl
theorem laidOutN : laidOutB Tryz.prog = true := by kernel_rfl
set_option maxRecDepth 100000 in
theorem lifted_XmltreeFunctions (os : Os) (started : os.Started) (H : Type) (enc : TypeId × Value → H) :
    ReturnsInHanded {} Tryz.checked os 4 .any (fun w args => (Rows.xmltreeFunctionsSpec.pre enc Tryz.prog Tryz.f4 [] false w args ∧ laidMetH Tryz.prog tokLaid w) ∧ sizedMet enc Tryz.prog Tryz.f4 (OpenSpec.ofChange Rows.xmltreeFunctionsSpec) false w args)
      (Rows.xmltreeFunctionsSpec.post enc Tryz.prog Tryz.f4 false true false false) := by
  refine handed_sized (C := Tryz.checked) (X := laidMetH Tryz.prog tokLaid) ownTF started (by kernel_rfl) Tryz.func4 (fun _ _ hh h => h.of_heap hh)
    (ChangeSpec.witness_shaped (enc := enc) (C := Tryz.checked) (os := os) (X := fun w _ => laidMetH Tryz.prog tokLaid w) false (World.laidAll Tryz.prog os tokLaid) #[.agg #[.int .i64 0, .string ⟨#[]⟩, .string ⟨#[]⟩, .slice none 0 0, .slice none 0 0, .string ⟨#[]⟩, .int .i64 0], .agg #[.int .i64 0, .string ⟨#[]⟩, .string ⟨#[]⟩, .slice none 0 0, .slice none 0 0, .string ⟨#[]⟩, .int .i64 0]] 8 (World.laidAll_os _ _ _)
      (World.shaped_of_ZipB (by kernel_rfl) (by kernel_rfl)) (by kernel_rfl) (by kernel_rfl) (by kernel_rfl)
      (by rw [MakeChecks.laidMetH_plain _ _ _ (by kernel_rfl)]; exact laidMet_laidAll _ (by kernel_rfl) (by kernel_rfl))) ?_
  intro W base args ds gs before hval0 hW hsz hsh hL
  have hval : ∀ (j : Nat) t v, Tryz.f4.params[j]? = some t → args[j]? = some v → Value.okWide Tryz.prog W .any base t v := hval0
  have hW' := hW
  obtain ⟨p, q, hA0, hV, rfl, _, _⟩ := hW
  have hA : DataW.TrodAll enc Tryz.prog W 0 (fun _ => true) true Tryz.f4.params.toList args.toList ds p := hA0
  rw [Tryz.params4] at hA hval hsz
  obtain ⟨v0, v1, d0, d1, p0, p1, rfl, rfl, rfl, h0, h1⟩ := trodAll_two hA
  obtain ⟨rfl, rfl⟩ := trodVars_none hV
  have hk0 := h0
  have hlt0 : ∀ x ∈ p0, x.block < W.heap.size := fun x hx => by simpa using hW'.lt x (by simp [hx])
  have hz0 : Sz Tryz.prog 26 d0 := fun z hz => of_decide_eq_true (List.all_eq_true.1 hsz _ (DataW.weights_mem_each (j := 0) (t := 26) rfl rfl z hz))
  obtain ⟨n0, hn0, hw0⟩ : ∃ n : NodeD, NodeIs W n v0 ∧ n.WF := by
    obtain ⟨cs, rfl, _⟩ := okWide_struct (show Tryz.prog.underlying 26 = some (.struct (Tryz.prog.fieldsOf 26)) by kernel_rfl) (hval 0 26 v0 rfl rfl)
    obtain ⟨fuel, hf⟩ := h0
    obtain ⟨n, hn, hw⟩ := open_node fuel _ _ hf hz0
    exact ⟨n, by simpa [Value.cells] using hn, hw⟩
  obtain ⟨pa0, ca0, pk0, ck0, rfl⟩ := node_form hn0
  have hk1 := h1
  have hlt1 : ∀ x ∈ p1, x.block < W.heap.size := fun x hx => by simpa using hW'.lt x (by simp [hx])
  have hz1 : Sz Tryz.prog 26 d1 := fun z hz => of_decide_eq_true (List.all_eq_true.1 hsz _ (DataW.weights_mem_each (j := 1) (t := 26) rfl rfl z hz))
  obtain ⟨n1, hn1, hw1⟩ : ∃ n : NodeD, NodeIs W n v1 ∧ n.WF := by
    obtain ⟨cs, rfl, _⟩ := okWide_struct (show Tryz.prog.underlying 26 = some (.struct (Tryz.prog.fieldsOf 26)) by kernel_rfl) (hval 1 26 v1 rfl rfl)
    obtain ⟨fuel, hf⟩ := h1
    obtain ⟨n, hn, hw⟩ := open_node fuel _ _ hf hz1
    exact ⟨n, by simpa [Value.cells] using hn, hw⟩
  obtain ⟨pa1, ca1, pk1, ck1, rfl⟩ := node_form hn1
  simp only [List.append_nil] at hW'
  refine (walk_TreFunctions n0 n1 pa0 ca0 pk0 ck0 pa1 ca1 pk1 ck1 W (tokT_of_laid hL hsh) hn0 hn1 hw0 hw1 ).mono fun e W' ⟨he, hb⟩ => ?_
  subst he
  exact ⟨_, rfl, _, _, _, [], _, [], hW', trodAll_mk1 (shut_bool Tryz.underlying4 _), trodAll_mk2 (Below.trod laidOutN (by kernel_rfl) (of_decide_eq_true (by kernel_rfl)) hk0 hb hlt0) (Below.trod laidOutN (by kernel_rfl) (of_decide_eq_true (by kernel_rfl)) hk1 hb hlt1), rfl, hb.frame _, fun h => by cases h⟩
theorem said_XmltreeFunctions : Rows.XmltreeFunctionsSaid :=
  OpenClaim.holds_of_wide 4 Tryz.f4 rfl rfl rfl rfl rfl rfl rfl ⟨rfl, rfl, rfl, rfl, rfl⟩ rfl rfl rfl rfl rfl (by kernel_rfl) Tryz.func4 (by kernel_rfl)
    (of_decide_eq_true (by kernel_rfl)) (by unfold Func.isWrapper; first | (rw [if_pos (by decide +kernel)]; kernel_rfl) | (rw [if_neg (by decide +kernel)]; exact ⟨rfl, rfl⟩))
    (fun os started H enc _ => lifted_XmltreeFunctions os started H enc)
theorem plain_XmltreeFunctions (f : FuncId) (fn : Func) (hf : Tryz.pinned.checked.prog.funcNamed "feedvault/feedvaultlaw07.XmltreeFunctions" = some f) (hfn : Tryz.pinned.checked.prog.funcs[f]? = some fn) :
    false = Tryz.pinned.checked.prog.looks [] ∧ ∀ (j : Nat) t, fn.params[j]? = some t → Tryz.pinned.checked.prog.wantsStandIn t = false := by
  obtain rfl : f = 4 := Option.some.inj ((show Tryz.prog.funcNamed "feedvault/feedvaultlaw07.XmltreeFunctions" = some 4 by kernel_rfl).symm.trans hf) |>.symm
  obtain rfl : fn = Tryz.f4 := (Option.some.inj (Tryz.func4.symm.trans hfn)).symm
  refine ⟨by kernel_rfl, fun j t ht => ?_⟩
  rw [Tryz.params4] at ht
  have hm : t ∈ [26, 26] := by simpa using Array.mem_of_getElem? ht
  have hall : ([26, 26].all fun u => !Tryz.prog.wantsStandIn u) = true := by kernel_rfl
  exact (show Tryz.prog.wantsStandIn t = false by simpa using List.all_eq_true.1 hall t hm)
theorem card_XmltreeFunctions : Rows.XmltreeFunctionsCardSaid :=
  Claim7.holds_tied_plain_at .later [] _ _ _ _ said_XmltreeFunctions (fun _ h => by cases h) (by kernel_rfl) (fun _ h => by cases h) xmltreeFunctions_row_tie rfl ⟨rfl, rfl⟩ (by kernel_rfl) rfl plain_XmltreeFunctions (by kernel_rfl)
end Go.Proofs.YtpmkapamlhnmpaaGreatDoor
end
