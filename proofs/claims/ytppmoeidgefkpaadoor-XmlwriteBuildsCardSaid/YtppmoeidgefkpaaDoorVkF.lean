/- Packed from the texts TrfA TreZ TrfN TreE TreF TreQ TreT TrfC TrfB. -/
import Derived.Test.YtppmoeidgefkpaaDoorVTextE
import Derived.Test.YtppmoeidgefkpaaDoorVTextF
import Derived.Test.YtppmoeidgefkpaaDoorVkD
import Derived.Test.YtppmoeidgefkpaaDoorVkE
import Derived.Deep.RegionHeld3
section
namespace Go.Proofs.YtppmoeidgefkpaaDoor
open Go.RowKit
def mn (s : ByteArray) : Nat := min s.size 9000
def wgtAs : List AttrD → Nat → Nat
  | [], T => T
  | x :: r, T => wgtAs r (T + (1 + mn x.sp + mn x.nm + mn x.va))
mutual
def NodeD.wgt : NodeD → Nat → Nat
  | .mk _ sp nm al kids tx _, T => wgtKs kids (wgtAs al (T + (1 + mn sp + mn nm + mn tx)))
def wgtKs : List NodeD → Nat → Nat
  | [], T => T
  | k :: r, T => if 9000 < T then T else wgtKs r (k.wgt T)
end
theorem wgt_eq (n : NodeD) (T : Nat) : n.wgt T = wgtKs n.kids (wgtAs n.al (T + (1 + mn n.sp + mn n.nm + mn n.tx))) := by cases n; rw [NodeD.wgt]; rfl
theorem mn_le (s : ByteArray) : mn s ≤ 9000 := Nat.min_le_right _ _
mutual
def NodeD.WF : NodeD → Prop
  | .mk _ _ _ al kids _ _ => al.length ≤ 140737488351232 ∧ kids.length ≤ 140737488351232 ∧ WFs kids
def WFs : List NodeD → Prop
  | [] => True
  | k :: r => k.WF ∧ WFs r
end
theorem wf_eq (n : NodeD) : n.WF ↔ n.al.length ≤ 140737488351232 ∧ n.kids.length ≤ 140737488351232 ∧ WFs n.kids := by cases n; rw [NodeD.WF]; exact Iff.rfl
theorem wfs_mem : ∀ (l : List NodeD), WFs l → ∀ k ∈ l, k.WF
  | [], _, _, h => by cases h
  | x :: r, h, k, hk => by
    rw [WFs] at h
    rcases List.mem_cons.1 hk with rfl | hk
    · exact h.1
    · exact wfs_mem r h.2 k hk
theorem wgtAs_le : ∀ (l : List AttrD) (T : Nat), T ≤ wgtAs l T ∧ wgtAs l T ≤ T + 27001 * l.length
  | [], T => ⟨Nat.le_refl _, Nat.le_refl _⟩
  | x :: r, T => by
    rw [wgtAs]
    have h := wgtAs_le r (T + (1 + mn x.sp + mn x.nm + mn x.va))
    have h1 := mn_le x.sp
    have h2 := mn_le x.nm
    have h3 := mn_le x.va
    rw [List.length_cons]
    omega
def mxW : Nat := 9000 + 27001 + 27001 * 140737488351232
mutual
theorem wgt_le : ∀ (n : NodeD) (T : Nat), n.WF → T ≤ 9000 → n.wgt T ≤ mxW
  | .mk k sp nm al kids tx a, T, h, hT => by
    rw [NodeD.wgt]
    rw [NodeD.WF] at h
    have h0 := wgtAs_le al (T + (1 + mn sp + mn nm + mn tx))
    have h1 := mn_le sp
    have h2 := mn_le nm
    have h3 := mn_le tx
    have hm : 27001 * al.length ≤ 27001 * 140737488351232 := Nat.mul_le_mul_left _ h.1
    exact wgtKs_le kids _ h.2.2 (by unfold mxW; omega)
theorem wgtKs_le : ∀ (l : List NodeD) (T : Nat), WFs l → T ≤ mxW → wgtKs l T ≤ mxW
  | [], T, _, hT => hT
  | k :: r, T, h, hT => by
    rw [wgtKs]
    rw [WFs] at h
    split
    · exact hT
    · exact wgtKs_le r _ h.2 (wgt_le k T h.1 (by omega))
end
theorem wgtAs_drop (l : List AttrD) (i : Nat) (h : i < l.length) (T : Nat) : wgtAs (l.drop i) T = wgtAs (l.drop (i + 1)) (T + (1 + mn l[i].sp + mn l[i].nm + mn l[i].va)) := by
  rw [List.drop_eq_getElem_cons h, wgtAs]
theorem wgtKs_drop (l : List NodeD) (i : Nat) (h : i < l.length) (T : Nat) : wgtKs (l.drop i) T = if 9000 < T then T else wgtKs (l.drop (i + 1)) (l[i].wgt T) := by
  rw [List.drop_eq_getElem_cons h, wgtKs]
theorem wrap_up {x : Int} (h0 : 0 ≤ x) (h1 : x ≤ 9000000000000000000) : IntKind.i64.wrap x = x := wrap_small x (by omega) (by omega)
set_option maxRecDepth 100000 in
set_option maxHeartbeats 8000000 in
theorem law_weight : ∀ (f : Nat) (n : NodeD) (v : Value) (T : Nat) (w : World), n.cnt ≤ f → n.WF → T ≤ 9000 → NodeIs w n v → Calls Tryd.prog 19 #[v, .int .i64 (T : Int)] w fun e w' => e = .returned (.int .i64 (n.wgt T : Nat)) ∧ Below w.heap.size w w'
  | 0, n, _, _, _, hf, _, _, _ => absurd hf (by have := cnt_eq n; omega)
  | f + 1, n, v, T, w, hf, hW, hT, hn => by
    have HD := Lib.hid (wgt_eq n T)
    have hmx := wgt_le n T hW hT
    have hkm : ∀ k ∈ n.kids, k.cnt ≤ f ∧ k.WF := fun k hk => ⟨by have := cnt_kid n k hk; omega, wfs_mem _ ((wf_eq n).1 hW).2.2 k hk⟩
    have HKM := Lib.hid hkm
    have hwf := (wf_eq n).1 hW
    have hks := wgtKs_le n.kids
    have hkw := hwf.2.2
    have hal0 := hwf.1
    have hkl0 := hwf.2.1
    obtain ⟨pa, ca, pk, ck, rfl, hA, hK⟩ := (node_is w n v).1 hn
    have hkl : (n.kids.length : Int) ≤ 140737488351232 := by omega
    have hal : (n.al.length : Int) ≤ 140737488351232 := by omega
    have h1 := mn_le n.sp
    have h2 := mn_le n.nm
    have h3 := mn_le n.tx
    have m1 : min (n.sp.size : Int) 9000 = (mn n.sp : Int) := by unfold mn; omega
    have m2 : min (n.nm.size : Int) 9000 = (mn n.nm : Int) := by unfold mn; omega
    have m3 : min (n.tx.size : Int) 9000 = (mn n.tx : Int) := by unfold mn; omega
    clear hn hkm hf hwf hW
    generalize mn n.sp = y1 at *
    generalize mn n.nm = y2 at *
    generalize mn n.tx = y3 at *
    generalize n.al = al at *
    generalize n.kids = kids at *
    have f14 : (w.alloc (.cells #[.int .i64 n.kind, .string n.sp, .string n.nm, .slice pa al.length ca, .slice pk kids.length ck, .string n.tx, .int .i64 n.at'] 25)).cell? ⟨w.heap.size, 4, none⟩ = some (.slice pk kids.length ck) := by simp
    have hbw0 : Below w.heap.size w (w.alloc (.cells #[.int .i64 n.kind, .string n.sp, .string n.nm, .slice pa al.length ca, .slice pk kids.length ck, .string n.tx, .int .i64 n.at'] 25)) := (Below.refl _ _).alloc (Nat.le_refl _) _
    have hz0 : (w.alloc (.cells #[.int .i64 n.kind, .string n.sp, .string n.nm, .slice pa al.length ca, .slice pk kids.length ck, .string n.tx, .int .i64 n.at'] 25)).heap.size = w.heap.size + 1 := by simp
    have w1 : IntKind.i64.wrap (1 + (y1 : Int)) = 1 + y1 := wrap_up (by omega) (by omega)
    have w2 : IntKind.i64.wrap (1 + (y1 : Int) + y2) = 1 + y1 + y2 := wrap_up (by omega) (by omega)
    have w3 : IntKind.i64.wrap (1 + (y1 : Int) + y2 + y3) = 1 + y1 + y2 + y3 := wrap_up (by omega) (by omega)
    have w4 : IntKind.i64.wrap ((T : Int) + (1 + (y1 : Int) + y2 + y3)) = (T : Int) + (1 + (y1 : Int) + y2 + y3) := wrap_up (by omega) (by omega)
    have HMX := Lib.hid hmx
    have HKS := Lib.hid hks
    clear hmx hks
    go_enter Tryd.func19, Tryd.ntmps19
    go_wp2
    generalize (w.alloc (.cells #[.int .i64 n.kind, .string n.sp, .string n.nm, .slice pa al.length ca, .slice pk kids.length ck, .string n.tx, .int .i64 n.at'] 25)) = W0 at *
    have hT0 : T + (1 + y1 + y2 + y3) ≤ 36001 := by omega
    have HAL := Lib.hid (wgtAs_le al (T + (1 + y1 + y2 + y3)))
    have hst : (T : Int) + (1 + (y1 : Int) + y2 + y3) = ((T + (1 + y1 + y2 + y3) : Nat) : Int) := by omega
    have HST := Lib.hid hst
    generalize hTT : T + (1 + y1 + y2 + y3) = T1 at *
    clear hst hTT w1 w2 w3 w4 m1 m2 m3 h1 h2 h3
    go_loopw [1, 29] (fun b q wr => ∃ (i S : Nat), i ≤ al.length ∧ q = .int .i64 i ∧ b = .int .i64 S ∧ wgtAs al T1 = wgtAs (al.drop i) S ∧ Below (w.heap.size + 1) W0 wr) (fun _ q _ => al.length - (intOf q).toNat)
    case atStart => exact ⟨0, T1, Nat.zero_le _, rfl, by rw [HST.out], rfl, Below.refl _ _⟩
    case round =>
      obtain ⟨i, S, hi, rfl, rfl, hrel, hbel⟩ := hrel
      obtain ⟨wo, rfl⟩ : ∃ wo, wo = wr := ⟨_, rfl⟩
      have hzo : w.heap.size + 1 ≤ wo.heap.size := by have := hbel.size; omega
      have hbo : Below w.heap.size w wo := hbw0.trans (hbel.mono (by omega))
      have hSb : S ≤ 36001 + 27001 * al.length := by
        have := HAL.out
        have h4 := (wgtAs_le (al.drop i) S).1
        omega
      by_cases hlt : i < al.length
      case pos =>
        have hiz : (i : Int) < (al.length : Int) := by omega
        obtain ⟨a, rfl, g0, g1, g2, g3⟩ := hA.below hbo i hlt
        rw [wgtAs_drop al i hlt] at hrel
        obtain ⟨x, hx⟩ : ∃ x, al[i] = x := ⟨_, rfl⟩
        rw [hx] at g0 g1 g2 g3 hrel
        obtain ⟨xs, xn, xv, xa⟩ := x
        simp only at g0 g1 g2 g3 hrel
        obtain ⟨cc, hcc⟩ : ∃ c, a.add (i * 4) = c := ⟨_, rfl⟩
        rw [hcc] at g0 g1 g2 g3
        simp only [Addr.add, Nat.reduceEqDiff, ↓reduceIte] at g1 g2 g3
        have h1 := mn_le xs
        have h2 := mn_le xn
        have h3 := mn_le xv
        have m1 : min (xs.size : Int) 9000 = (mn xs : Int) := by unfold mn; omega
        have m2 : min (xn.size : Int) 9000 = (mn xn : Int) := by unfold mn; omega
        have m3 : min (xv.size : Int) 9000 = (mn xv : Int) := by unfold mn; omega
        generalize mn xs = y1 at *
        generalize mn xn = y2 at *
        generalize mn xv = y3 at *
        have w1 : IntKind.i64.wrap (1 + (y1 : Int)) = 1 + y1 := wrap_up (by omega) (by omega)
        have w2 : IntKind.i64.wrap (1 + (y1 : Int) + y2) = 1 + y1 + y2 := wrap_up (by omega) (by omega)
        have w3 : IntKind.i64.wrap (1 + (y1 : Int) + y2 + y3) = 1 + y1 + y2 + y3 := wrap_up (by omega) (by omega)
        have w4 : IntKind.i64.wrap ((S : Int) + (1 + (y1 : Int) + y2 + y3)) = (S : Int) + (1 + (y1 : Int) + y2 + y3) := wrap_up (by omega) (by omega)
        have hb2 : ∀ o : Obj, Below (w.heap.size + 1) W0 (wo.alloc o) := fun o => hbel.alloc hzo _
        have HN := Lib.hid hrel
        have HS2 := Lib.hid (show (S : Int) + (1 + (y1 : Int) + y2 + y3) = ((S + (1 + y1 + y2 + y3) : Nat) : Int) by omega)
        clear hrel hA hK f14
        go_wp2
        go_roundw
        case rel => exact ⟨i + 1, S + (1 + y1 + y2 + y3), by omega, by go_num, by rw [HS2.out], HN.out, hb2 _⟩
        case measure => simp [intOf]; omega
      case neg =>
        obtain rfl : i = al.length := by omega
        have HB := Lib.hid (show wgtAs al T1 = S by rw [hrel, List.drop_eq_nil_of_le (Nat.le_refl _)]; rfl)
        have g14 := (hbel.cell (p := ⟨w.heap.size, 4, none⟩) (by show w.heap.size < _; omega)).trans f14
        have hiz : ¬ (al.length : Int) < (al.length : Int) := by omega
        have hSm : S ≤ mxW := by
          have : 27001 * al.length ≤ 27001 * 140737488351232 := Nat.mul_le_mul_left _ hal0
          unfold mxW
          omega
        have HSM := Lib.hid hSm
        clear hrel hA hSb hSm
        go_wp2
        go_loopw [1, 54] (fun b q wr => ∃ (j R : Nat), j ≤ kids.length ∧ q = .int .i64 j ∧ b = .int .i64 R ∧ R ≤ mxW ∧ wgtKs kids S = wgtKs (kids.drop j) R ∧ Below (w.heap.size + 1) W0 wr) (fun _ q _ => kids.length - (intOf q).toNat)
        case atStart => exact ⟨0, S, Nat.zero_le _, rfl, rfl, HSM.out, rfl, hbel⟩
        case round =>
          clear g14 hbel hbo hzo f14
          obtain ⟨j, R, hj, rfl, rfl, hRm, hrl, hbl⟩ := hrel
          obtain ⟨wi, rfl⟩ : ∃ wi, wi = wr := ⟨_, rfl⟩
          have hzi : w.heap.size + 1 ≤ wi.heap.size := by have := hbl.size; omega
          have hbi : Below w.heap.size w wi := hbw0.trans (hbl.mono (by omega))
          have HRM := Lib.hid hRm
          clear hRm
          by_cases hjl : j < kids.length
          case pos =>
            have hjz : (j : Int) < (kids.length : Int) := by omega
            obtain ⟨a, v0, v1, v2, v3, v4, v5, v6, rfl, ⟨b0, b1, b2, b3, b4, b5, b6⟩, hk⟩ := KidsAt.get kids 0 (hK.below hbi) j hjl
            rw [Nat.zero_add] at b0 b1 b2 b3 b4 b5 b6
            rw [wgtKs_drop kids j hjl] at hrl
            have hmem : kids[j] ∈ kids := List.getElem_mem _
            obtain ⟨K, hKj⟩ : ∃ K, kids[j] = K := ⟨_, rfl⟩
            rw [hKj] at hk hmem hrl
            obtain ⟨ra, rc, rk, rl, hv, -, -⟩ := (node_is wi K _).1 hk
            simp only [Value.agg.injEq, Array.mk.injEq, List.cons.injEq, and_true] at hv
            obtain ⟨rfl, rfl, rfl, rfl, rfl, rfl, rfl⟩ := hv
            have hKW := (HKM.out _ hmem).2
            have c1 : ∀ o, R ≤ 9000 → _ := fun (o : Obj) hR => law_weight f K _ R (wi.alloc o) (HKM.out _ hmem).1 hKW hR (NodeIs.below ((Below.refl _ _).alloc (Nat.le_refl _) o) _ _ hk)
            have HKW := Lib.hid (fun hR => wgt_le K R hKW hR)
            clear hKj hKW
            generalize K.wgt R = zb at *
            generalize K.kind = y0 at *
            generalize K.sp = y1 at *
            generalize K.nm = y2 at *
            generalize K.al.length = y3 at *
            generalize K.kids.length = y4 at *
            generalize K.tx = y5 at *
            generalize K.at' = y6 at *
            obtain ⟨cc, hcc⟩ : ∃ c, a.add (j * 7) = c := ⟨_, rfl⟩
            rw [hcc] at b0 b1 b2 b3 b4 b5 b6
            simp only [Addr.add, Nat.reduceEqDiff, ↓reduceIte] at b1 b2 b3 b4 b5 b6
            have hb2 : ∀ o : Obj, Below (w.heap.size + 1) W0 (wi.alloc o) := fun o => hbl.alloc hzi _
            by_cases hR9 : 9000 < R
            · rw [if_pos hR9] at hrl
              have hR9z : (9000 : Int) < (R : Int) := by omega
              have HN := Lib.hid (show n.wgt T = R by rw [HD.out, HB.out, hrl])
              have hbe : ∀ o : Obj, Below w.heap.size w (wi.alloc o) := fun o => hbi.alloc (by omega) _
              clear hrl hK hk hmem c1 HKM
              go_wp2
              go_ret
              exact ⟨trI (by rw [HN.out]), hbe _⟩
            · rw [if_neg hR9] at hrl
              have hR9z : ¬ (9000 : Int) < (R : Int) := by omega
              have HN := Lib.hid hrl
              have hzm := HKW.out (by omega)
              have HZM := Lib.hid hzm
              clear hrl hK hk hmem HKM HKW hzm
              go_wp2_with fail
              refine (c1 _ (by omega)).mono ?_
              rintro e w5 ⟨rfl, b5⟩
              have hb5 : Below (w.heap.size + 1) W0 w5 := (hb2 _).trans (b5.mono (by have := ((Below.refl _ wi).alloc (Nat.le_refl _) (.cells #[.int .i64 y0, .string y1, .string y2, .slice ra y3 rc, .slice rk y4 rl, .string y5, .int .i64 y6] 25)).size; omega))
              clear c1 b5
              go_wp2
              go_roundw
              case rel => exact ⟨j + 1, zb, by omega, by go_num, rfl, HZM.out, HN.out, hb5⟩
              case measure => simp [intOf]; omega
          case neg =>
            obtain rfl : j = kids.length := by omega
            have HX := Lib.hid (show n.wgt T = R by rw [HD.out, HB.out, hrl, List.drop_eq_nil_of_le (Nat.le_refl _)]; rfl)
            have hjz : ¬ (kids.length : Int) < (kids.length : Int) := by omega
            clear hrl hK
            go_wp2
            go_ret
            exact ⟨trI (by rw [HX.out]), hbi⟩
set_option maxRecDepth 100000 in
set_option maxHeartbeats 4000000 in
theorem law_TooLarge (n : NodeD) (v : Value) (w : World) (hW : n.WF) (hn : NodeIs w n v) : Calls Tryd.prog 7 #[v] w fun e w' => e = .returned (.int .i64 (oneIf (decide (5000 < n.wgt 0)))) ∧ Below w.heap.size w w' := by
  have c1 : ∀ o, _ := fun o : Obj => law_weight n.cnt n v 0 (w.alloc o) (Nat.le_refl _) hW (by decide) (NodeIs.below ((Below.refl _ _).alloc (Nat.le_refl _) o) _ _ hn)
  obtain ⟨pa, ca, pk, ck, rfl, -, -⟩ := (node_is w n v).1 hn
  have hbe : ∀ o : Obj, Below w.heap.size w (w.alloc o) := fun o => (Below.refl _ _).alloc (Nat.le_refl _) _
  rw [show ((0 : Nat) : Int) = 0 from rfl] at c1
  clear hn
  generalize n.wgt 0 = T at *
  by_cases hT : 5000 < T
  · have hTz : (5000 : Int) < (T : Int) := by omega
    rw [decide_eq_true hT]
    go_enter Tryd.func7, Tryd.ntmps7
    go_wp2_with fail
    refine (c1 _).mono ?_
    rintro e w5 ⟨rfl, b5⟩
    have hb5 := (hbe _).trans (b5.mono (by simp))
    go_wp2
    go_ret
    exact ⟨rfl, hb5⟩
  · have hTz : ¬ (5000 : Int) < (T : Int) := by omega
    rw [decide_eq_false hT]
    go_enter Tryd.func7, Tryd.ntmps7
    go_wp2_with fail
    refine (c1 _).mono ?_
    rintro e w5 ⟨rfl, b5⟩
    have hb5 := (hbe _).trans (b5.mono (by simp))
    go_wp2
    go_ret
    exact ⟨rfl, hb5⟩
mutual
def NodeD.mass : NodeD → Nat
  | .mk _ sp nm al kids tx _ => 1 + sp.size + nm.size + tx.size + (al.map fun x => 1 + x.sp.size + x.nm.size + x.va.size).sum + masses kids
def masses : List NodeD → Nat
  | [] => 0
  | k :: r => k.mass + masses r
end
theorem wgtAs_mass : ∀ (l : List AttrD) (T : Nat), wgtAs l T ≤ 9000 → wgtAs l T = T + (l.map fun x => 1 + x.sp.size + x.nm.size + x.va.size).sum
  | [], T, _ => rfl
  | x :: r, T, h => by
    rw [wgtAs] at h ⊢
    have h0 := wgtAs_le r (T + (1 + mn x.sp + mn x.nm + mn x.va))
    have := wgtAs_mass r _ h
    rw [this, List.map_cons, List.sum_cons]
    unfold mn at *
    omega
mutual
theorem wgt_ge : ∀ (n : NodeD) (T : Nat), T ≤ n.wgt T
  | .mk _ sp nm al kids tx _, T => by
    rw [NodeD.wgt]
    have h0 := wgtAs_le al (T + (1 + mn sp + mn nm + mn tx))
    have := wgts_ge kids (wgtAs al (T + (1 + mn sp + mn nm + mn tx)))
    omega
theorem wgts_ge : ∀ (l : List NodeD) (T : Nat), T ≤ wgtKs l T
  | [], T => Nat.le_refl _
  | k :: r, T => by
    rw [wgtKs]
    split
    · exact Nat.le_refl _
    · exact Nat.le_trans (wgt_ge k T) (wgts_ge r _)
end
mutual
theorem wgt_mass : ∀ (n : NodeD) (T : Nat), n.wgt T ≤ 8999 → n.wgt T = T + n.mass
  | .mk _ sp nm al kids tx _, T, h => by
    rw [NodeD.wgt] at h ⊢
    have h0 := wgtAs_le al (T + (1 + mn sp + mn nm + mn tx))
    have h1 := wgts_ge kids (wgtAs al (T + (1 + mn sp + mn nm + mn tx)))
    rw [wgts_mass kids _ h, NodeD.mass, wgtAs_mass al _ (by omega)]
    unfold mn at *
    omega
theorem wgts_mass : ∀ (l : List NodeD) (T : Nat), wgtKs l T ≤ 8999 → wgtKs l T = T + masses l
  | [], T, _ => rfl
  | k :: r, T, h => by
    rw [wgtKs] at h ⊢
    split
    · rename_i h1
      rw [if_pos h1] at h
      omega
    · rename_i h1
      rw [if_neg h1] at h
      have h2 := wgts_ge r (k.wgt T)
      rw [wgts_mass r _ h, wgt_mass k T (by omega), masses]
      omega
end
theorem sum_len : ∀ l : List AttrD, l.length ≤ (l.map fun x => 1 + x.sp.size + x.nm.size + x.va.size).sum
  | [] => Nat.le_refl _
  | x :: r => by
    rw [List.map_cons, List.sum_cons, List.length_cons]
    have := sum_len r
    omega
end Go.Proofs.YtppmoeidgefkpaaDoor
end
section
namespace Go.Proofs.YtppmoeidgefkpaaDoor
open Go.RowKit
def RootAt (X : List Nat) (w : World) (R B P : Nat) : Option NodeD → Prop
  | none => Blk w B nodeZs 25
  | some n => ∃ pa ca pk ck, Blk w B #[.int .i64 n.kind, .string n.sp, .string n.nm, .slice pa n.al.length ca, .slice pk n.kids.length ck, .string n.tx, .int .i64 n.at'] 25 ∧ NodeIs (holes w ([R, B, P] ++ X)) n (.agg #[.int .i64 n.kind, .string n.sp, .string n.nm, .slice pa n.al.length ca, .slice pk n.kids.length ck, .string n.tx, .int .i64 n.at'])
theorem RootAt.keep {X : List Nat} {w w' : World} {R B P : Nat} {r : Option NodeD} (h : RootAt X w R B P r) (hk : Keep P w w') (hB : B ≠ P) : RootAt X w' R B P r := by
  cases r with
  | none => exact Blk.keep (h : Blk w B nodeZs _) hk hB
  | some n =>
    obtain ⟨pa, ca, pk, ck, hb, hn⟩ := h
    exact ⟨pa, ca, pk, ck, hb.keep hk hB, hn.go (Goes.keep hk (by simp))⟩
end Go.Proofs.YtppmoeidgefkpaaDoor
end
section
namespace Go.Proofs.YtppmoeidgefkpaaDoor
open Go.RowKit
theorem node_form {w : World} {n : NodeD} {v : Value} (h : NodeIs w n v) : ∃ pa ca pk ck, v = .agg #[.int .i64 n.kind, .string n.sp, .string n.nm, .slice pa n.al.length ca, .slice pk n.kids.length ck, .string n.tx, .int .i64 n.at'] := by
  obtain ⟨pa, ca, pk, ck, hv, _, _⟩ := (node_is w n v).1 h
  exact ⟨pa, ca, pk, ck, hv⟩
end Go.Proofs.YtppmoeidgefkpaaDoor
end
section
namespace Go.Proofs.YtppmoeidgefkpaaDoor
open Go.RowKit
set_option maxRecDepth 100000 in
set_option maxHeartbeats 32000000 in
theorem eq_main_false (f : Nat) (IH0 : EqC false f) : EqM false f := by
    intro O hO w k1 s1 n1 t1 a1 a2 al bl kids lids pa pk qa qk ca ck da dk R hR hq5 h6 h7 hkm hkl hal hA hK hB hL
    have HKM := Lib.hid hkm
    have H6 := Lib.hid h6
    have H7 := Lib.hid h7
    have HD2 := Lib.hid hR
    have HO := Lib.hid hO
    have IH : ∀ (n m : NodeD) (v u : Value) (w : World), n.wt ≤ f → n.wt ≤ 100000000 → NodeIs w n v → NodeIs w m u → Calls Tryd.prog 14 #[v, u, .bool false] w fun e w' => e = .returned (.bool (n.eqB O m)) ∧ Below w.heap.size w w' := fun n m v u w a b c d => by rw [hO]; exact IH0 n m v u w a b c d
    have hbw : Below w.heap.size w ((w.alloc (.cells #[.int .i64 k1, .string s1, .string n1, .slice pa al.length ca, .slice pk kids.length ck, .string t1, .int .i64 a1] 25)).alloc (.cells #[.int .i64 k1, .string s1, .string n1, .slice qa al.length da, .slice qk kids.length dk, .string t1, .int .i64 a2] 25)) := ((Below.refl _ _).alloc (Nat.le_refl _) _).alloc (by simp) _
    clear hO hR h6 h7 hkm hq5 IH0
    have f13 : ((w.alloc (.cells #[.int .i64 k1, .string s1, .string n1, .slice pa al.length ca, .slice pk kids.length ck, .string t1, .int .i64 a1] 25)).alloc (.cells #[.int .i64 k1, .string s1, .string n1, .slice qa al.length da, .slice qk kids.length dk, .string t1, .int .i64 a2] 25)).cell? ⟨w.heap.size, 3, none⟩ = some (.slice pa al.length ca) := by simp
    have f23 : ((w.alloc (.cells #[.int .i64 k1, .string s1, .string n1, .slice pa al.length ca, .slice pk kids.length ck, .string t1, .int .i64 a1] 25)).alloc (.cells #[.int .i64 k1, .string s1, .string n1, .slice qa al.length da, .slice qk kids.length dk, .string t1, .int .i64 a2] 25)).cell? ⟨w.heap.size + 1, 3, none⟩ = some (.slice qa al.length da) := by simp
    have f14 : ((w.alloc (.cells #[.int .i64 k1, .string s1, .string n1, .slice pa al.length ca, .slice pk kids.length ck, .string t1, .int .i64 a1] 25)).alloc (.cells #[.int .i64 k1, .string s1, .string n1, .slice qa al.length da, .slice qk kids.length dk, .string t1, .int .i64 a2] 25)).cell? ⟨w.heap.size, 4, none⟩ = some (.slice pk kids.length ck) := by simp
    have f24 : ((w.alloc (.cells #[.int .i64 k1, .string s1, .string n1, .slice pa al.length ca, .slice pk kids.length ck, .string t1, .int .i64 a1] 25)).alloc (.cells #[.int .i64 k1, .string s1, .string n1, .slice qa al.length da, .slice qk kids.length dk, .string t1, .int .i64 a2] 25)).cell? ⟨w.heap.size + 1, 4, none⟩ = some (.slice qk kids.length dk) := by simp
    have hz0 : ((w.alloc (.cells #[.int .i64 k1, .string s1, .string n1, .slice pa al.length ca, .slice pk kids.length ck, .string t1, .int .i64 a1] 25)).alloc (.cells #[.int .i64 k1, .string s1, .string n1, .slice qa al.length da, .slice qk kids.length dk, .string t1, .int .i64 a2] 25)).heap.size = w.heap.size + 2 := by simp
    go_enter Tryd.func14, Tryd.ntmps14
    go_wp2
    generalize ((w.alloc (.cells #[.int .i64 k1, .string s1, .string n1, .slice pa al.length ca, .slice pk kids.length ck, .string t1, .int .i64 a1] 25)).alloc (.cells #[.int .i64 k1, .string s1, .string n1, .slice qa al.length da, .slice qk kids.length dk, .string t1, .int .i64 a2] 25)) = W0 at *
    go_loopw [7] (fun q wr => ∃ i : Nat, i ≤ al.length ∧ q = .int .i64 i ∧ allEq O al bl = allEq O (al.drop i) (bl.drop i) ∧ Below (w.heap.size + 2) W0 wr) (fun q _ => al.length - (intOf q).toNat)
    case atStart => exact ⟨0, Nat.zero_le _, rfl, rfl, Below.refl _ _⟩
    case round =>
      obtain ⟨i, hi, rfl, hrel, hbel⟩ := hrel
      obtain ⟨wo, rfl⟩ : ∃ wo, wo = wr := ⟨_, rfl⟩
      have hzo : w.heap.size + 2 ≤ wo.heap.size := by have := hbel.size; omega
      have hbo : Below w.heap.size w wo := hbw.trans (hbel.mono (by omega))
      have g13 := (hbel.cell (p := ⟨w.heap.size, 3, none⟩) (by show w.heap.size < _; omega)).trans f13
      have g23 := (hbel.cell (p := ⟨w.heap.size + 1, 3, none⟩) (by show w.heap.size + 1 < _; omega)).trans f23
      by_cases hlt : i < al.length
      case pos =>
        have hiz : (i : Int) < (al.length : Int) := by omega
        have hltm : i < bl.length := by have := H6.out; omega
        obtain ⟨a, rfl, a0, a1', a2', a3⟩ := hA.below hbo i hlt
        obtain ⟨b, rfl, b0, b1, b2, b3⟩ := hB.below hbo i hltm
        rw [allEq_drop O al bl i hlt hltm] at hrel
        obtain ⟨x, hx⟩ : ∃ x, al[i] = x := ⟨_, rfl⟩
        obtain ⟨y, hy⟩ : ∃ y, bl[i] = y := ⟨_, rfl⟩
        rw [hx] at a0 a1' a2' a3
        rw [hy] at b0 b1 b2 b3
        rw [hx, hy] at hrel
        obtain ⟨xs, xn, xv, xa⟩ := x
        obtain ⟨ys, yn, yv, ya⟩ := y
        simp only at a0 a1' a2' a3 b0 b1 b2 b3
        have hae : attrEqB O ⟨xs, xn, xv, xa⟩ ⟨ys, yn, yv, ya⟩ = decide (xs = ys ∧ xn = yn ∧ xv = yv ∧ (O = true → xa = ya)) := rfl
        rw [hae] at hrel
        obtain ⟨cc, hcc⟩ : ∃ c, a.add (i * 4) = c := ⟨_, rfl⟩
        obtain ⟨dd, hdd⟩ : ∃ c, b.add (i * 4) = c := ⟨_, rfl⟩
        rw [hcc] at a0 a1' a2' a3
        rw [hdd] at b0 b1 b2 b3
        simp only [Addr.add, Nat.reduceEqDiff, ↓reduceIte] at a1' a2' a3 b1 b2 b3
        have HR := Lib.hid hrel
        have wq : ∀ (o : Obj) (c : Addr) (v : Value), wo.cell? c = some v → (wo.alloc o).cell? c = some v := fun o c v h => (((Below.refl wo.heap.size wo).alloc (Nat.le_refl _) o).cell (kblock_lt h)).trans h
        have w0 : ∀ o, _ := fun o => wq o _ _ b0
        have w1 : ∀ o, _ := fun o => wq o _ _ b1
        have w2 : ∀ o, _ := fun o => wq o _ _ b2
        have w3 : ∀ o, _ := fun o => wq o _ _ b3
        have w4 : ∀ o, _ := fun o => wq o _ _ g23
        clear hrel hae hx hy hA hB hK hL wq f13 f23 f14 f24 IH
        have hb2 : ∀ o1 o2 : Obj, Below w.heap.size w ((wo.alloc o1).alloc o2) := fun o1 o2 => (hbo.alloc (by omega) _).alloc (by simp; omega) _
        have hb3 : ∀ o1 o2 : Obj, Below (w.heap.size + 2) W0 ((wo.alloc o1).alloc o2) := fun o1 o2 => (hbel.alloc hzo _).alloc (by simp; omega) _
        by_cases e1 : xs = ys
        case neg =>
          have HN := Lib.hid (show R = false by rw [HD2.out, HR.out, decide_eq_false (fun q => e1 q.1)]; rfl)
          have p1 := str_ne e1
          have p2 := str_ne2 e1
          have p3 := str_ne3 e1
          clear e1 HR
          go_wp2
          go_ret
          exact ⟨trB (by rw [HN.out]), hb2 _ _⟩
        subst e1
        by_cases e2 : xn = yn
        case neg =>
          have HN := Lib.hid (show R = false by rw [HD2.out, HR.out, decide_eq_false (fun q => e2 q.2.1)]; rfl)
          have p1 := str_ne e2
          have p2 := str_ne2 e2
          have p3 := str_ne3 e2
          clear e2 HR
          go_wp2
          go_ret
          exact ⟨trB (by rw [HN.out]), hb2 _ _⟩
        subst e2
        by_cases e3 : xv = yv
        case neg =>
          have HN := Lib.hid (show R = false by rw [HD2.out, HR.out, decide_eq_false (fun q => e3 q.2.2.1)]; rfl)
          have p1 := str_ne e3
          have p2 := str_ne2 e3
          have p3 := str_ne3 e3
          clear e3 HR
          go_wp2
          go_ret
          exact ⟨trB (by rw [HN.out]), hb2 _ _⟩
        subst e3
        by_cases e4 : O = true ∧ xa ≠ ya
        case pos =>
          first
            | (exact absurd (HO.out.symm.trans e4.1) (by decide))
            | (have HN := Lib.hid (show R = false by rw [HD2.out, HR.out, decide_eq_false (fun q => e4.2 (q.2.2.2 e4.1))]; rfl)
               have p1 : (xa != ya) = true := by simpa using e4.2
               clear e4 HR
               go_wp2
               go_ret
               exact ⟨trB (by rw [HN.out]), hb2 _ _⟩)
        case neg =>
          have hxa : O = true → xa = ya := fun e => Classical.byContradiction fun q => e4 ⟨e, q⟩
          have HN := Lib.hid (show allEq O al bl = allEq O (al.drop (i + 1)) (bl.drop (i + 1)) by rw [HR.out, decide_eq_true ⟨rfl, rfl, rfl, hxa⟩, Bool.true_and])
          skip
          clear e4 HR hxa
          go_wp2
          go_roundw
          case rel => exact ⟨i + 1, by omega, by go_num, HN.out, hb3 _ _⟩
          case measure => simp [intOf]; omega
      case neg =>
        obtain rfl : i = al.length := by omega
        have hall : allEq O al bl = true := by rw [hrel, List.drop_eq_nil_of_le (Nat.le_refl _), allEq]
        have HE := Lib.hid (show R = eqsB O kids lids by rw [HD2.out, hall, Bool.true_and])
        have g14 := (hbel.cell (p := ⟨w.heap.size, 4, none⟩) (by show w.heap.size < _; omega)).trans f14
        have hiz : ¬ (al.length : Int) < (al.length : Int) := by omega
        clear hrel hall hA hB g23 f13 f23 HD2
        go_wp2
        go_loopw [10] (fun q wr => ∃ j : Nat, j ≤ kids.length ∧ q = .int .i64 j ∧ eqsB O kids lids = eqsB O (kids.drop j) (lids.drop j) ∧ Below (w.heap.size + 2) W0 wr) (fun q _ => kids.length - (intOf q).toNat)
        case atStart => exact ⟨0, Nat.zero_le _, rfl, rfl, hbel⟩
        case round =>
          clear g13 g14 hbel hbo hzo
          obtain ⟨j, hj, rfl, hrl, hbl⟩ := hrel
          obtain ⟨wi, rfl⟩ : ∃ wi, wi = wr := ⟨_, rfl⟩
          have hzi : w.heap.size + 2 ≤ wi.heap.size := by have := hbl.size; omega
          have hbi : Below w.heap.size w wi := hbw.trans (hbl.mono (by omega))
          have k14 := (hbl.cell (p := ⟨w.heap.size, 4, none⟩) (by show w.heap.size < _; omega)).trans f14
          have k24 := (hbl.cell (p := ⟨w.heap.size + 1, 4, none⟩) (by show w.heap.size + 1 < _; omega)).trans f24
          by_cases hjl : j < kids.length
          case pos =>
            have hjm : j < lids.length := by have := H7.out; omega
            have hjz : (j : Int) < (kids.length : Int) := by omega
            have hj0 : (0 : Int) ≤ (j : Int) := by omega
            obtain ⟨a, v0, v1, v2, v3, v4, v5, v6, rfl, ⟨a0, a1', a2', a3, a4, a5, a6⟩, hk⟩ := KidsAt.get kids 0 (hK.below hbi) j hjl
            obtain ⟨b, u0, u1, u2, u3, u4, u5, u6, rfl, ⟨b0, b1, b2, b3, b4, b5, b6⟩, hl⟩ := KidsAt.get lids 0 (hL.below hbi) j hjm
            rw [Nat.zero_add] at a0 a1' a2' a3 a4 a5 a6 b0 b1 b2 b3 b4 b5 b6
            rw [eqsB_drop O kids lids j hjl hjm] at hrl
            have hmem : kids[j] ∈ kids := List.getElem_mem _
            have c1 := IH kids[j] lids[j] _ _ wi.drew (HKM.out _ hmem).1 (HKM.out _ hmem).2 (NodeIs.below ((Below.refl _ _).drew) _ _ hk) (NodeIs.below ((Below.refl _ _).drew) _ _ hl)
            obtain ⟨r, hr⟩ : ∃ r, NodeD.eqB O kids[j] lids[j] = r := ⟨_, rfl⟩
            rw [hr] at c1 hrl
            obtain ⟨cc, hcc⟩ : ∃ c, a.add (j * 7) = c := ⟨_, rfl⟩
            obtain ⟨dd, hdd⟩ : ∃ c, b.add (j * 7) = c := ⟨_, rfl⟩
            rw [hcc] at a0 a1' a2' a3 a4 a5 a6
            rw [hdd] at b0 b1 b2 b3 b4 b5 b6
            simp only [Addr.add, Nat.reduceEqDiff, ↓reduceIte] at a1' a2' a3 a4 a5 a6 b1 b2 b3 b4 b5 b6
            have HR := Lib.hid hrl
            have kS : ∀ w5, Below wi.drew.heap.size wi.drew w5 → (w5.cell? ⟨w.heap.size, 4, none⟩ = some (.slice (some a) kids.length ck) ∧ w5.cell? ⟨w.heap.size + 1, 4, none⟩ = some (.slice (some b) kids.length dk)) ∧ (w5.cell? cc = some v0 ∧ w5.cell? ⟨cc.block, cc.off + 1, none⟩ = some v1 ∧ w5.cell? ⟨cc.block, cc.off + 2, none⟩ = some v2 ∧ w5.cell? ⟨cc.block, cc.off + 3, none⟩ = some v3 ∧ w5.cell? ⟨cc.block, cc.off + 4, none⟩ = some v4 ∧ w5.cell? ⟨cc.block, cc.off + 5, none⟩ = some v5 ∧ w5.cell? ⟨cc.block, cc.off + 6, none⟩ = some v6) ∧ (w5.cell? dd = some u0 ∧ w5.cell? ⟨dd.block, dd.off + 1, none⟩ = some u1 ∧ w5.cell? ⟨dd.block, dd.off + 2, none⟩ = some u2 ∧ w5.cell? ⟨dd.block, dd.off + 3, none⟩ = some u3 ∧ w5.cell? ⟨dd.block, dd.off + 4, none⟩ = some u4 ∧ w5.cell? ⟨dd.block, dd.off + 5, none⟩ = some u5 ∧ w5.cell? ⟨dd.block, dd.off + 6, none⟩ = some u6) := fun w5 bb => ⟨⟨(bb.cell (kblock_lt k14)).trans k14, (bb.cell (kblock_lt k24)).trans k24⟩, ⟨(bb.cell (kblock_lt a0)).trans a0, (bb.cell (kblock_lt a1')).trans a1', (bb.cell (kblock_lt a2')).trans a2', (bb.cell (kblock_lt a3)).trans a3, (bb.cell (kblock_lt a4)).trans a4, (bb.cell (kblock_lt a5)).trans a5, (bb.cell (kblock_lt a6)).trans a6⟩, ⟨(bb.cell (kblock_lt b0)).trans b0, (bb.cell (kblock_lt b1)).trans b1, (bb.cell (kblock_lt b2)).trans b2, (bb.cell (kblock_lt b3)).trans b3, (bb.cell (kblock_lt b4)).trans b4, (bb.cell (kblock_lt b5)).trans b5, (bb.cell (kblock_lt b6)).trans b6⟩⟩
            clear hrl hr hk hl hK hL hmem IH HKM f14 f24
            go_wp2
            go_region_held3 (fun w' => (w'.cell? ⟨w.heap.size, 4, none⟩ = some (.slice (some a) kids.length ck) ∧ w'.cell? ⟨w.heap.size + 1, 4, none⟩ = some (.slice (some b) kids.length dk)) ∧ (w'.cell? cc = some v0 ∧ w'.cell? ⟨cc.block, cc.off + 1, none⟩ = some v1 ∧ w'.cell? ⟨cc.block, cc.off + 2, none⟩ = some v2 ∧ w'.cell? ⟨cc.block, cc.off + 3, none⟩ = some v3 ∧ w'.cell? ⟨cc.block, cc.off + 4, none⟩ = some v4 ∧ w'.cell? ⟨cc.block, cc.off + 5, none⟩ = some v5 ∧ w'.cell? ⟨cc.block, cc.off + 6, none⟩ = some v6) ∧ (w'.cell? dd = some u0 ∧ w'.cell? ⟨dd.block, dd.off + 1, none⟩ = some u1 ∧ w'.cell? ⟨dd.block, dd.off + 2, none⟩ = some u2 ∧ w'.cell? ⟨dd.block, dd.off + 3, none⟩ = some u3 ∧ w'.cell? ⟨dd.block, dd.off + 4, none⟩ = some u4 ∧ w'.cell? ⟨dd.block, dd.off + 5, none⟩ = some u5 ∧ w'.cell? ⟨dd.block, dd.off + 6, none⟩ = some u6)) (first | exact ⟨⟨k14, k24⟩, ⟨a0, a1', a2', a3, a4, a5, a6⟩, ⟨b0, b1, b2, b3, b4, b5, b6⟩⟩ | exact hS5) (first | (go_at_call 14; refine c1.mono ?_; rintro e w5 ⟨rfl, b5'⟩; have hS5 := kS w5 b5'))
            have hb5 : Below (w.heap.size + 2) W0 w5 := hbl.drew.trans (b5'.mono hzi)
            have hbw5 : Below w.heap.size w w5 := hbw.trans (hb5.mono (by omega))
            clear kS hS5 c1 k14 k24 a0 a1' a2' a3 a4 a5 a6 b0 b1 b2 b3 b4 b5 b6
            rcases r with _ | _
            · have HX := Lib.hid (show R = false by rw [HE.out, HR.out]; rfl)
              go_wp2
              go_ret
              exact ⟨trB (by rw [HX.out]), hbw5⟩
            · have HX := Lib.hid (HR.out.trans (Bool.true_and _))
              go_wp2
              go_roundw
              case rel => exact ⟨j + 1, by omega, by go_num, HX.out, hb5⟩
              case measure => simp [intOf]; omega
          case neg =>
            obtain rfl : j = kids.length := by omega
            have HX := Lib.hid (show R = true by rw [HE.out, hrl, List.drop_eq_nil_of_le (Nat.le_refl _), eqsB])
            have hjz : ¬ (kids.length : Int) < (kids.length : Int) := by omega
            clear hrl hK hL
            go_wp2
            go_ret
            exact ⟨trB (by rw [HX.out]), hbi⟩
end Go.Proofs.YtppmoeidgefkpaaDoor
end
section
namespace Go.Proofs.YtppmoeidgefkpaaDoor
open Go.RowKit
set_option maxRecDepth 100000 in
set_option maxHeartbeats 32000000 in
theorem eq_main_true (f : Nat) (IH0 : EqC true f) : EqM true f := by
    intro O hO w k1 s1 n1 t1 a1 a2 al bl kids lids pa pk qa qk ca ck da dk R hR hq5 h6 h7 hkm hkl hal hA hK hB hL
    have HKM := Lib.hid hkm
    have H6 := Lib.hid h6
    have H7 := Lib.hid h7
    have HD2 := Lib.hid hR
    have HO := Lib.hid hO
    have IH : ∀ (n m : NodeD) (v u : Value) (w : World), n.wt ≤ f → n.wt ≤ 100000000 → NodeIs w n v → NodeIs w m u → Calls Tryd.prog 14 #[v, u, .bool true] w fun e w' => e = .returned (.bool (n.eqB O m)) ∧ Below w.heap.size w w' := fun n m v u w a b c d => by rw [hO]; exact IH0 n m v u w a b c d
    have hbw : Below w.heap.size w ((w.alloc (.cells #[.int .i64 k1, .string s1, .string n1, .slice pa al.length ca, .slice pk kids.length ck, .string t1, .int .i64 a1] 25)).alloc (.cells #[.int .i64 k1, .string s1, .string n1, .slice qa al.length da, .slice qk kids.length dk, .string t1, .int .i64 a2] 25)) := ((Below.refl _ _).alloc (Nat.le_refl _) _).alloc (by simp) _
    have q5 := hq5 rfl
    clear hO hR h6 h7 hkm hq5 IH0
    have f13 : ((w.alloc (.cells #[.int .i64 k1, .string s1, .string n1, .slice pa al.length ca, .slice pk kids.length ck, .string t1, .int .i64 a1] 25)).alloc (.cells #[.int .i64 k1, .string s1, .string n1, .slice qa al.length da, .slice qk kids.length dk, .string t1, .int .i64 a2] 25)).cell? ⟨w.heap.size, 3, none⟩ = some (.slice pa al.length ca) := by simp
    have f23 : ((w.alloc (.cells #[.int .i64 k1, .string s1, .string n1, .slice pa al.length ca, .slice pk kids.length ck, .string t1, .int .i64 a1] 25)).alloc (.cells #[.int .i64 k1, .string s1, .string n1, .slice qa al.length da, .slice qk kids.length dk, .string t1, .int .i64 a2] 25)).cell? ⟨w.heap.size + 1, 3, none⟩ = some (.slice qa al.length da) := by simp
    have f14 : ((w.alloc (.cells #[.int .i64 k1, .string s1, .string n1, .slice pa al.length ca, .slice pk kids.length ck, .string t1, .int .i64 a1] 25)).alloc (.cells #[.int .i64 k1, .string s1, .string n1, .slice qa al.length da, .slice qk kids.length dk, .string t1, .int .i64 a2] 25)).cell? ⟨w.heap.size, 4, none⟩ = some (.slice pk kids.length ck) := by simp
    have f24 : ((w.alloc (.cells #[.int .i64 k1, .string s1, .string n1, .slice pa al.length ca, .slice pk kids.length ck, .string t1, .int .i64 a1] 25)).alloc (.cells #[.int .i64 k1, .string s1, .string n1, .slice qa al.length da, .slice qk kids.length dk, .string t1, .int .i64 a2] 25)).cell? ⟨w.heap.size + 1, 4, none⟩ = some (.slice qk kids.length dk) := by simp
    have hz0 : ((w.alloc (.cells #[.int .i64 k1, .string s1, .string n1, .slice pa al.length ca, .slice pk kids.length ck, .string t1, .int .i64 a1] 25)).alloc (.cells #[.int .i64 k1, .string s1, .string n1, .slice qa al.length da, .slice qk kids.length dk, .string t1, .int .i64 a2] 25)).heap.size = w.heap.size + 2 := by simp
    go_enter Tryd.func14, Tryd.ntmps14
    go_wp2
    generalize ((w.alloc (.cells #[.int .i64 k1, .string s1, .string n1, .slice pa al.length ca, .slice pk kids.length ck, .string t1, .int .i64 a1] 25)).alloc (.cells #[.int .i64 k1, .string s1, .string n1, .slice qa al.length da, .slice qk kids.length dk, .string t1, .int .i64 a2] 25)) = W0 at *
    go_loopw [7] (fun q wr => ∃ i : Nat, i ≤ al.length ∧ q = .int .i64 i ∧ allEq O al bl = allEq O (al.drop i) (bl.drop i) ∧ Below (w.heap.size + 2) W0 wr) (fun q _ => al.length - (intOf q).toNat)
    case atStart => exact ⟨0, Nat.zero_le _, rfl, rfl, Below.refl _ _⟩
    case round =>
      obtain ⟨i, hi, rfl, hrel, hbel⟩ := hrel
      obtain ⟨wo, rfl⟩ : ∃ wo, wo = wr := ⟨_, rfl⟩
      have hzo : w.heap.size + 2 ≤ wo.heap.size := by have := hbel.size; omega
      have hbo : Below w.heap.size w wo := hbw.trans (hbel.mono (by omega))
      have g13 := (hbel.cell (p := ⟨w.heap.size, 3, none⟩) (by show w.heap.size < _; omega)).trans f13
      have g23 := (hbel.cell (p := ⟨w.heap.size + 1, 3, none⟩) (by show w.heap.size + 1 < _; omega)).trans f23
      by_cases hlt : i < al.length
      case pos =>
        have hiz : (i : Int) < (al.length : Int) := by omega
        have hltm : i < bl.length := by have := H6.out; omega
        obtain ⟨a, rfl, a0, a1', a2', a3⟩ := hA.below hbo i hlt
        obtain ⟨b, rfl, b0, b1, b2, b3⟩ := hB.below hbo i hltm
        rw [allEq_drop O al bl i hlt hltm] at hrel
        obtain ⟨x, hx⟩ : ∃ x, al[i] = x := ⟨_, rfl⟩
        obtain ⟨y, hy⟩ : ∃ y, bl[i] = y := ⟨_, rfl⟩
        rw [hx] at a0 a1' a2' a3
        rw [hy] at b0 b1 b2 b3
        rw [hx, hy] at hrel
        obtain ⟨xs, xn, xv, xa⟩ := x
        obtain ⟨ys, yn, yv, ya⟩ := y
        simp only at a0 a1' a2' a3 b0 b1 b2 b3
        have hae : attrEqB O ⟨xs, xn, xv, xa⟩ ⟨ys, yn, yv, ya⟩ = decide (xs = ys ∧ xn = yn ∧ xv = yv ∧ (O = true → xa = ya)) := rfl
        rw [hae] at hrel
        obtain ⟨cc, hcc⟩ : ∃ c, a.add (i * 4) = c := ⟨_, rfl⟩
        obtain ⟨dd, hdd⟩ : ∃ c, b.add (i * 4) = c := ⟨_, rfl⟩
        rw [hcc] at a0 a1' a2' a3
        rw [hdd] at b0 b1 b2 b3
        simp only [Addr.add, Nat.reduceEqDiff, ↓reduceIte] at a1' a2' a3 b1 b2 b3
        have HR := Lib.hid hrel
        have wq : ∀ (o : Obj) (c : Addr) (v : Value), wo.cell? c = some v → (wo.alloc o).cell? c = some v := fun o c v h => (((Below.refl wo.heap.size wo).alloc (Nat.le_refl _) o).cell (kblock_lt h)).trans h
        have w0 : ∀ o, _ := fun o => wq o _ _ b0
        have w1 : ∀ o, _ := fun o => wq o _ _ b1
        have w2 : ∀ o, _ := fun o => wq o _ _ b2
        have w3 : ∀ o, _ := fun o => wq o _ _ b3
        have w4 : ∀ o, _ := fun o => wq o _ _ g23
        clear hrel hae hx hy hA hB hK hL wq f13 f23 f14 f24 IH
        have hb2 : ∀ o1 o2 : Obj, Below w.heap.size w ((wo.alloc o1).alloc o2) := fun o1 o2 => (hbo.alloc (by omega) _).alloc (by simp; omega) _
        have hb3 : ∀ o1 o2 : Obj, Below (w.heap.size + 2) W0 ((wo.alloc o1).alloc o2) := fun o1 o2 => (hbel.alloc hzo _).alloc (by simp; omega) _
        by_cases e1 : xs = ys
        case neg =>
          have HN := Lib.hid (show R = false by rw [HD2.out, HR.out, decide_eq_false (fun q => e1 q.1)]; rfl)
          have p1 := str_ne e1
          have p2 := str_ne2 e1
          have p3 := str_ne3 e1
          clear e1 HR
          go_wp2
          go_ret
          exact ⟨trB (by rw [HN.out]), hb2 _ _⟩
        subst e1
        by_cases e2 : xn = yn
        case neg =>
          have HN := Lib.hid (show R = false by rw [HD2.out, HR.out, decide_eq_false (fun q => e2 q.2.1)]; rfl)
          have p1 := str_ne e2
          have p2 := str_ne2 e2
          have p3 := str_ne3 e2
          clear e2 HR
          go_wp2
          go_ret
          exact ⟨trB (by rw [HN.out]), hb2 _ _⟩
        subst e2
        by_cases e3 : xv = yv
        case neg =>
          have HN := Lib.hid (show R = false by rw [HD2.out, HR.out, decide_eq_false (fun q => e3 q.2.2.1)]; rfl)
          have p1 := str_ne e3
          have p2 := str_ne2 e3
          have p3 := str_ne3 e3
          clear e3 HR
          go_wp2
          go_ret
          exact ⟨trB (by rw [HN.out]), hb2 _ _⟩
        subst e3
        by_cases e4 : O = true ∧ xa ≠ ya
        case pos =>
          first
            | (exact absurd (HO.out.symm.trans e4.1) (by decide))
            | (have HN := Lib.hid (show R = false by rw [HD2.out, HR.out, decide_eq_false (fun q => e4.2 (q.2.2.2 e4.1))]; rfl)
               have p1 : (xa != ya) = true := by simpa using e4.2
               clear e4 HR
               go_wp2
               go_ret
               exact ⟨trB (by rw [HN.out]), hb2 _ _⟩)
        case neg =>
          have hxa : O = true → xa = ya := fun e => Classical.byContradiction fun q => e4 ⟨e, q⟩
          have HN := Lib.hid (show allEq O al bl = allEq O (al.drop (i + 1)) (bl.drop (i + 1)) by rw [HR.out, decide_eq_true ⟨rfl, rfl, rfl, hxa⟩, Bool.true_and])
          have q9 : (xa != ya) = false := by simp [hxa HO.out]
          clear e4 HR hxa
          go_wp2
          go_roundw
          case rel => exact ⟨i + 1, by omega, by go_num, HN.out, hb3 _ _⟩
          case measure => simp [intOf]; omega
      case neg =>
        obtain rfl : i = al.length := by omega
        have hall : allEq O al bl = true := by rw [hrel, List.drop_eq_nil_of_le (Nat.le_refl _), allEq]
        have HE := Lib.hid (show R = eqsB O kids lids by rw [HD2.out, hall, Bool.true_and])
        have g14 := (hbel.cell (p := ⟨w.heap.size, 4, none⟩) (by show w.heap.size < _; omega)).trans f14
        have hiz : ¬ (al.length : Int) < (al.length : Int) := by omega
        clear hrel hall hA hB g23 f13 f23 HD2
        go_wp2
        go_loopw [10] (fun q wr => ∃ j : Nat, j ≤ kids.length ∧ q = .int .i64 j ∧ eqsB O kids lids = eqsB O (kids.drop j) (lids.drop j) ∧ Below (w.heap.size + 2) W0 wr) (fun q _ => kids.length - (intOf q).toNat)
        case atStart => exact ⟨0, Nat.zero_le _, rfl, rfl, hbel⟩
        case round =>
          clear g13 g14 hbel hbo hzo
          obtain ⟨j, hj, rfl, hrl, hbl⟩ := hrel
          obtain ⟨wi, rfl⟩ : ∃ wi, wi = wr := ⟨_, rfl⟩
          have hzi : w.heap.size + 2 ≤ wi.heap.size := by have := hbl.size; omega
          have hbi : Below w.heap.size w wi := hbw.trans (hbl.mono (by omega))
          have k14 := (hbl.cell (p := ⟨w.heap.size, 4, none⟩) (by show w.heap.size < _; omega)).trans f14
          have k24 := (hbl.cell (p := ⟨w.heap.size + 1, 4, none⟩) (by show w.heap.size + 1 < _; omega)).trans f24
          by_cases hjl : j < kids.length
          case pos =>
            have hjm : j < lids.length := by have := H7.out; omega
            have hjz : (j : Int) < (kids.length : Int) := by omega
            have hj0 : (0 : Int) ≤ (j : Int) := by omega
            obtain ⟨a, v0, v1, v2, v3, v4, v5, v6, rfl, ⟨a0, a1', a2', a3, a4, a5, a6⟩, hk⟩ := KidsAt.get kids 0 (hK.below hbi) j hjl
            obtain ⟨b, u0, u1, u2, u3, u4, u5, u6, rfl, ⟨b0, b1, b2, b3, b4, b5, b6⟩, hl⟩ := KidsAt.get lids 0 (hL.below hbi) j hjm
            rw [Nat.zero_add] at a0 a1' a2' a3 a4 a5 a6 b0 b1 b2 b3 b4 b5 b6
            rw [eqsB_drop O kids lids j hjl hjm] at hrl
            have hmem : kids[j] ∈ kids := List.getElem_mem _
            have c1 := IH kids[j] lids[j] _ _ wi.drew (HKM.out _ hmem).1 (HKM.out _ hmem).2 (NodeIs.below ((Below.refl _ _).drew) _ _ hk) (NodeIs.below ((Below.refl _ _).drew) _ _ hl)
            obtain ⟨r, hr⟩ : ∃ r, NodeD.eqB O kids[j] lids[j] = r := ⟨_, rfl⟩
            rw [hr] at c1 hrl
            obtain ⟨cc, hcc⟩ : ∃ c, a.add (j * 7) = c := ⟨_, rfl⟩
            obtain ⟨dd, hdd⟩ : ∃ c, b.add (j * 7) = c := ⟨_, rfl⟩
            rw [hcc] at a0 a1' a2' a3 a4 a5 a6
            rw [hdd] at b0 b1 b2 b3 b4 b5 b6
            simp only [Addr.add, Nat.reduceEqDiff, ↓reduceIte] at a1' a2' a3 a4 a5 a6 b1 b2 b3 b4 b5 b6
            have HR := Lib.hid hrl
            have kS : ∀ w5, Below wi.drew.heap.size wi.drew w5 → (w5.cell? ⟨w.heap.size, 4, none⟩ = some (.slice (some a) kids.length ck) ∧ w5.cell? ⟨w.heap.size + 1, 4, none⟩ = some (.slice (some b) kids.length dk)) ∧ (w5.cell? cc = some v0 ∧ w5.cell? ⟨cc.block, cc.off + 1, none⟩ = some v1 ∧ w5.cell? ⟨cc.block, cc.off + 2, none⟩ = some v2 ∧ w5.cell? ⟨cc.block, cc.off + 3, none⟩ = some v3 ∧ w5.cell? ⟨cc.block, cc.off + 4, none⟩ = some v4 ∧ w5.cell? ⟨cc.block, cc.off + 5, none⟩ = some v5 ∧ w5.cell? ⟨cc.block, cc.off + 6, none⟩ = some v6) ∧ (w5.cell? dd = some u0 ∧ w5.cell? ⟨dd.block, dd.off + 1, none⟩ = some u1 ∧ w5.cell? ⟨dd.block, dd.off + 2, none⟩ = some u2 ∧ w5.cell? ⟨dd.block, dd.off + 3, none⟩ = some u3 ∧ w5.cell? ⟨dd.block, dd.off + 4, none⟩ = some u4 ∧ w5.cell? ⟨dd.block, dd.off + 5, none⟩ = some u5 ∧ w5.cell? ⟨dd.block, dd.off + 6, none⟩ = some u6) := fun w5 bb => ⟨⟨(bb.cell (kblock_lt k14)).trans k14, (bb.cell (kblock_lt k24)).trans k24⟩, ⟨(bb.cell (kblock_lt a0)).trans a0, (bb.cell (kblock_lt a1')).trans a1', (bb.cell (kblock_lt a2')).trans a2', (bb.cell (kblock_lt a3)).trans a3, (bb.cell (kblock_lt a4)).trans a4, (bb.cell (kblock_lt a5)).trans a5, (bb.cell (kblock_lt a6)).trans a6⟩, ⟨(bb.cell (kblock_lt b0)).trans b0, (bb.cell (kblock_lt b1)).trans b1, (bb.cell (kblock_lt b2)).trans b2, (bb.cell (kblock_lt b3)).trans b3, (bb.cell (kblock_lt b4)).trans b4, (bb.cell (kblock_lt b5)).trans b5, (bb.cell (kblock_lt b6)).trans b6⟩⟩
            clear hrl hr hk hl hK hL hmem IH HKM f14 f24
            go_wp2
            go_region_held3 (fun w' => (w'.cell? ⟨w.heap.size, 4, none⟩ = some (.slice (some a) kids.length ck) ∧ w'.cell? ⟨w.heap.size + 1, 4, none⟩ = some (.slice (some b) kids.length dk)) ∧ (w'.cell? cc = some v0 ∧ w'.cell? ⟨cc.block, cc.off + 1, none⟩ = some v1 ∧ w'.cell? ⟨cc.block, cc.off + 2, none⟩ = some v2 ∧ w'.cell? ⟨cc.block, cc.off + 3, none⟩ = some v3 ∧ w'.cell? ⟨cc.block, cc.off + 4, none⟩ = some v4 ∧ w'.cell? ⟨cc.block, cc.off + 5, none⟩ = some v5 ∧ w'.cell? ⟨cc.block, cc.off + 6, none⟩ = some v6) ∧ (w'.cell? dd = some u0 ∧ w'.cell? ⟨dd.block, dd.off + 1, none⟩ = some u1 ∧ w'.cell? ⟨dd.block, dd.off + 2, none⟩ = some u2 ∧ w'.cell? ⟨dd.block, dd.off + 3, none⟩ = some u3 ∧ w'.cell? ⟨dd.block, dd.off + 4, none⟩ = some u4 ∧ w'.cell? ⟨dd.block, dd.off + 5, none⟩ = some u5 ∧ w'.cell? ⟨dd.block, dd.off + 6, none⟩ = some u6)) (first | exact ⟨⟨k14, k24⟩, ⟨a0, a1', a2', a3, a4, a5, a6⟩, ⟨b0, b1, b2, b3, b4, b5, b6⟩⟩ | exact hS5) (first | (go_at_call 14; refine c1.mono ?_; rintro e w5 ⟨rfl, b5'⟩; have hS5 := kS w5 b5'))
            have hb5 : Below (w.heap.size + 2) W0 w5 := hbl.drew.trans (b5'.mono hzi)
            have hbw5 : Below w.heap.size w w5 := hbw.trans (hb5.mono (by omega))
            clear kS hS5 c1 k14 k24 a0 a1' a2' a3 a4 a5 a6 b0 b1 b2 b3 b4 b5 b6
            rcases r with _ | _
            · have HX := Lib.hid (show R = false by rw [HE.out, HR.out]; rfl)
              go_wp2
              go_ret
              exact ⟨trB (by rw [HX.out]), hbw5⟩
            · have HX := Lib.hid (HR.out.trans (Bool.true_and _))
              go_wp2
              go_roundw
              case rel => exact ⟨j + 1, by omega, by go_num, HX.out, hb5⟩
              case measure => simp [intOf]; omega
          case neg =>
            obtain rfl : j = kids.length := by omega
            have HX := Lib.hid (show R = true by rw [HE.out, hrl, List.drop_eq_nil_of_le (Nat.le_refl _), eqsB])
            have hjz : ¬ (kids.length : Int) < (kids.length : Int) := by omega
            clear hrl hK hL
            go_wp2
            go_ret
            exact ⟨trB (by rw [HX.out]), hbi⟩
theorem tref_Equal : ∀ (off : Bool) (f : Nat), EqC off f
  | _, 0 => fun n _ _ _ _ hf _ _ _ => absurd hf (by have := wt_eq n; omega)
  | false, f + 1 => eq_heads false f (eq_main_false f (tref_Equal false f))
  | true, f + 1 => eq_heads true f (eq_main_true f (tref_Equal true f))
end Go.Proofs.YtppmoeidgefkpaaDoor
end
section
namespace Go.Proofs.YtppmoeidgefkpaaDoor
open Go.RowKit
def A8 (w' : World) (c d : Addr) (x y : AttrD) : Prop := w'.cell? c = some (.string x.sp) ∧ w'.cell? ⟨c.block, c.off + 1, none⟩ = some (.string x.nm) ∧ w'.cell? ⟨c.block, c.off + 2, none⟩ = some (.string x.va) ∧ w'.cell? ⟨c.block, c.off + 3, none⟩ = some (.int .i64 x.at') ∧ w'.cell? d = some (.string y.sp) ∧ w'.cell? ⟨d.block, d.off + 1, none⟩ = some (.string y.nm) ∧ w'.cell? ⟨d.block, d.off + 2, none⟩ = some (.string y.va) ∧ w'.cell? ⟨d.block, d.off + 3, none⟩ = some (.int .i64 y.at')
theorem A8.below {w1 w2 : World} {c d : Addr} {x y : AttrD} (h : A8 w1 c d x y) (hb : Below w1.heap.size w1 w2) : A8 w2 c d x y := by
  obtain ⟨h0, h1, h2, h3, h4, h5, h6, h7⟩ := h
  exact ⟨(hb.cell (kblock_lt h0)).trans h0, (hb.cell (kblock_lt h1)).trans h1, (hb.cell (kblock_lt h2)).trans h2, (hb.cell (kblock_lt h3)).trans h3, (hb.cell (kblock_lt h4)).trans h4, (hb.cell (kblock_lt h5)).trans h5, (hb.cell (kblock_lt h6)).trans h6, (hb.cell (kblock_lt h7)).trans h7⟩
end Go.Proofs.YtppmoeidgefkpaaDoor
end
section
namespace Go.Proofs.YtppmoeidgefkpaaDoor
open Go.RowKit
def Box (w : World) (b : Nat) (pa : Option Addr) (ca : Nat) (pk : Option Addr) (ck : Nat) : Prop := w.cell? ⟨b, 0, none⟩ = some (.int .i64 0) ∧ w.cell? ⟨b, 1, none⟩ = some (.string ⟨#[]⟩) ∧ w.cell? ⟨b, 2, none⟩ = some (.string ⟨#[97]⟩) ∧ w.cell? ⟨b, 3, none⟩ = some (.slice pa 0 ca) ∧ w.cell? ⟨b, 4, none⟩ = some (.slice pk 2 ck) ∧ w.cell? ⟨b, 5, none⟩ = some (.string ⟨#[]⟩) ∧ w.cell? ⟨b, 6, none⟩ = some (.int .i64 0)
theorem Box.below {w w' : World} {b : Nat} {pa : Option Addr} {ca : Nat} {pk : Option Addr} {ck : Nat} (h : Box w b pa ca pk ck) (hb : Below w.heap.size w w') : Box w' b pa ca pk ck := by
  obtain ⟨h0, h1, h2, h3, h4, h5, h6⟩ := h
  exact ⟨(hb.cell (kblock_lt h0)).trans h0, (hb.cell (kblock_lt h1)).trans h1, (hb.cell (kblock_lt h2)).trans h2, (hb.cell (kblock_lt h3)).trans h3, (hb.cell (kblock_lt h4)).trans h4, (hb.cell (kblock_lt h5)).trans h5, (hb.cell (kblock_lt h6)).trans h6⟩
end Go.Proofs.YtppmoeidgefkpaaDoor
end
section
namespace Go.Proofs.YtppmoeidgefkpaaDoor
open Go.RowKit
def NBox (x : World) (b : Nat) (n : NodeD) (pa : Option Addr) (ca : Nat) (pk : Option Addr) (ck : Nat) : Prop := x.cell? ⟨b, 0, none⟩ = some (.int .i64 n.kind) ∧ x.cell? ⟨b, 1, none⟩ = some (.string n.sp) ∧ x.cell? ⟨b, 2, none⟩ = some (.string n.nm) ∧ x.cell? ⟨b, 3, none⟩ = some (.slice pa n.al.length ca) ∧ x.cell? ⟨b, 4, none⟩ = some (.slice pk n.kids.length ck) ∧ x.cell? ⟨b, 5, none⟩ = some (.string n.tx) ∧ x.cell? ⟨b, 6, none⟩ = some (.int .i64 n.at')
theorem NBox.below {x y : World} {b : Nat} {n : NodeD} {pa : Option Addr} {ca : Nat} {pk : Option Addr} {ck : Nat} (h : NBox x b n pa ca pk ck) (hb : Below x.heap.size x y) : NBox y b n pa ca pk ck := by
  obtain ⟨h0, h1, h2, h3, h4, h5, h6⟩ := h
  exact ⟨(hb.cell (kblock_lt h0)).trans h0, (hb.cell (kblock_lt h1)).trans h1, (hb.cell (kblock_lt h2)).trans h2, (hb.cell (kblock_lt h3)).trans h3, (hb.cell (kblock_lt h4)).trans h4, (hb.cell (kblock_lt h5)).trans h5, (hb.cell (kblock_lt h6)).trans h6⟩
theorem NBox.of {x : World} {b : Nat} {n : NodeD} {pa : Option Addr} {ca : Nat} {pk : Option Addr} {ck : Nat} {T : TypeId} (h : Blk x b #[.int .i64 n.kind, .string n.sp, .string n.nm, .slice pa n.al.length ca, .slice pk n.kids.length ck, .string n.tx, .int .i64 n.at'] T) : NBox x b n pa ca pk ck :=
  ⟨h.cell 0, h.cell 1, h.cell 2, h.cell 3, h.cell 4, h.cell 5, h.cell 6⟩
end Go.Proofs.YtppmoeidgefkpaaDoor
end
section
namespace Go.Proofs.YtppmoeidgefkpaaDoor
open Go.RowKit
theorem allEq_refl (off : Bool) : ∀ l : List AttrD, allEq off l l = true
  | [] => rfl
  | x :: r => by
    rw [allEq, allEq_refl off r, Bool.and_true]
    exact decide_eq_true ⟨rfl, rfl, rfl, fun _ => rfl⟩
mutual
theorem eqB_refl (off : Bool) : ∀ n : NodeD, n.eqB off n = true
  | .mk k s n al kids tx a => by
    rw [NodeD.eqB]
    have h1 : headEq off (.mk k s n al kids tx a) (.mk k s n al kids tx a) = true := decide_eq_true ⟨rfl, rfl, rfl, rfl, fun _ => rfl, rfl, rfl⟩
    rw [h1, Bool.true_and]
    show (allEq off al al && eqsB off kids kids) = true
    rw [allEq_refl, eqsB_refl off kids]
    rfl
theorem eqsB_refl (off : Bool) : ∀ l : List NodeD, eqsB off l l = true
  | [] => rfl
  | k :: r => by rw [eqsB, eqB_refl off k, eqsB_refl off r]; rfl
end
end Go.Proofs.YtppmoeidgefkpaaDoor
end
