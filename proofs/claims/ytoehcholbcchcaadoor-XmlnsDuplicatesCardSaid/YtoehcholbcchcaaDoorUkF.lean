/- Packed from the texts TreE TreF TreQ TreT TrfA TreZ TrfN TrfC TrfS TrfB. -/
import Derived.Test.YtoehcholbcchcaaDoorUTextE
import Derived.Test.YtoehcholbcchcaaDoorUTextF
import Derived.Test.YtoehcholbcchcaaDoorUkB
import Derived.Test.YtoehcholbcchcaaDoorUkD
import Derived.Test.YtoehcholbcchcaaDoorUkE
import Derived.Deep.RegionHeld3
section
namespace Go.Proofs.YtoehcholbcchcaaDoor
open Go.RowKit
set_option maxRecDepth 100000 in
set_option maxHeartbeats 32000000 in
theorem eq_main_false (f : Nat) (IH0 : EqC false f) : EqM false f := by
    intro O hO w k1 s1 n1 t1 a1 a2 al bl kids lids pa pk qa qk ca ck da dk R hR hq5 h6 h7 hkm hkl hal hA hK hB hL
    have HKM := Lib.hid hkm
    have H6 := Lib.hid h6
    have H7 := Lib.hid h7
    have HD2 := Lib.hid hR
    have HO := Lib.hid hO
    have IH : ∀ (n m : NodeD) (v u : Value) (w : World), n.wt ≤ f → n.wt ≤ 100000000 → NodeIs w n v → NodeIs w m u → Calls Tryd.prog 15 #[v, u, .bool false] w fun e w' => e = .returned (.bool (n.eqB O m)) ∧ Below w.heap.size w w' := fun n m v u w a b c d => by rw [hO]; exact IH0 n m v u w a b c d
    have hbw : Below w.heap.size w ((w.alloc (.cells #[.int .i64 k1, .string s1, .string n1, .slice pa al.length ca, .slice pk kids.length ck, .string t1, .int .i64 a1] 29)).alloc (.cells #[.int .i64 k1, .string s1, .string n1, .slice qa al.length da, .slice qk kids.length dk, .string t1, .int .i64 a2] 29)) := ((Below.refl _ _).alloc (Nat.le_refl _) _).alloc (by simp) _
    clear hO hR h6 h7 hkm hq5 IH0
    have f13 : ((w.alloc (.cells #[.int .i64 k1, .string s1, .string n1, .slice pa al.length ca, .slice pk kids.length ck, .string t1, .int .i64 a1] 29)).alloc (.cells #[.int .i64 k1, .string s1, .string n1, .slice qa al.length da, .slice qk kids.length dk, .string t1, .int .i64 a2] 29)).cell? ⟨w.heap.size, 3, none⟩ = some (.slice pa al.length ca) := by simp
    have f23 : ((w.alloc (.cells #[.int .i64 k1, .string s1, .string n1, .slice pa al.length ca, .slice pk kids.length ck, .string t1, .int .i64 a1] 29)).alloc (.cells #[.int .i64 k1, .string s1, .string n1, .slice qa al.length da, .slice qk kids.length dk, .string t1, .int .i64 a2] 29)).cell? ⟨w.heap.size + 1, 3, none⟩ = some (.slice qa al.length da) := by simp
    have f14 : ((w.alloc (.cells #[.int .i64 k1, .string s1, .string n1, .slice pa al.length ca, .slice pk kids.length ck, .string t1, .int .i64 a1] 29)).alloc (.cells #[.int .i64 k1, .string s1, .string n1, .slice qa al.length da, .slice qk kids.length dk, .string t1, .int .i64 a2] 29)).cell? ⟨w.heap.size, 4, none⟩ = some (.slice pk kids.length ck) := by simp
    have f24 : ((w.alloc (.cells #[.int .i64 k1, .string s1, .string n1, .slice pa al.length ca, .slice pk kids.length ck, .string t1, .int .i64 a1] 29)).alloc (.cells #[.int .i64 k1, .string s1, .string n1, .slice qa al.length da, .slice qk kids.length dk, .string t1, .int .i64 a2] 29)).cell? ⟨w.heap.size + 1, 4, none⟩ = some (.slice qk kids.length dk) := by simp
    have hz0 : ((w.alloc (.cells #[.int .i64 k1, .string s1, .string n1, .slice pa al.length ca, .slice pk kids.length ck, .string t1, .int .i64 a1] 29)).alloc (.cells #[.int .i64 k1, .string s1, .string n1, .slice qa al.length da, .slice qk kids.length dk, .string t1, .int .i64 a2] 29)).heap.size = w.heap.size + 2 := by simp
    go_enter Tryd.func15, Tryd.ntmps15
    go_wp2
    generalize ((w.alloc (.cells #[.int .i64 k1, .string s1, .string n1, .slice pa al.length ca, .slice pk kids.length ck, .string t1, .int .i64 a1] 29)).alloc (.cells #[.int .i64 k1, .string s1, .string n1, .slice qa al.length da, .slice qk kids.length dk, .string t1, .int .i64 a2] 29)) = W0 at *
    go_loopw [7] (fun q wr => ∃ i : Nat, i ≤ al.length ∧ q = .int .i64 i ∧ allEq O al bl = allEq O (al.drop i) (bl.drop i) ∧ Below (w.heap.size + 2) W0 wr) (fun q _ => al.length - (intOf q).toNat)
    case atStart => exact ⟨0, Nat.zero_le _, rfl, rfl, Below.refl _ _⟩
    case round =>
      obtain ⟨i, hi, rfl, hrel, hbel⟩ := hrel
      obtain ⟨wo, rfl⟩ : ∃ wo, wo = wr := ⟨_, rfl⟩
      have hzo : w.heap.size + 2 ≤ wo.heap.size := by have := hbel.size; omega
      have hbo : Below w.heap.size w wo := hbw.trans (hbel.mono (by omega))
      have g13 := (hbel.cell (p := ⟨w.heap.size, 3, none⟩) (by show w.heap.size < _; omega)).trans f13
      have g23 := (hbel.cell (p := ⟨w.heap.size + 1, 3, none⟩) (by show w.heap.size + 1 < _; omega)).trans f23
      by_cases hlt : i < al.length
      case pos =>
        have hiz : (i : Int) < (al.length : Int) := by omega
        have hltm : i < bl.length := by have := H6.out; omega
        obtain ⟨a, rfl, a0, a1', a2', a3⟩ := hA.below hbo i hlt
        obtain ⟨b, rfl, b0, b1, b2, b3⟩ := hB.below hbo i hltm
        rw [allEq_drop O al bl i hlt hltm] at hrel
        obtain ⟨x, hx⟩ : ∃ x, al[i] = x := ⟨_, rfl⟩
        obtain ⟨y, hy⟩ : ∃ y, bl[i] = y := ⟨_, rfl⟩
        rw [hx] at a0 a1' a2' a3
        rw [hy] at b0 b1 b2 b3
        rw [hx, hy] at hrel
        obtain ⟨xs, xn, xv, xa⟩ := x
        obtain ⟨ys, yn, yv, ya⟩ := y
        simp only at a0 a1' a2' a3 b0 b1 b2 b3
        have hae : attrEqB O ⟨xs, xn, xv, xa⟩ ⟨ys, yn, yv, ya⟩ = decide (xs = ys ∧ xn = yn ∧ xv = yv ∧ (O = true → xa = ya)) := rfl
        rw [hae] at hrel
        obtain ⟨cc, hcc⟩ : ∃ c, a.add (i * 4) = c := ⟨_, rfl⟩
        obtain ⟨dd, hdd⟩ : ∃ c, b.add (i * 4) = c := ⟨_, rfl⟩
        rw [hcc] at a0 a1' a2' a3
        rw [hdd] at b0 b1 b2 b3
        simp only [Addr.add, Nat.reduceEqDiff, ↓reduceIte] at a1' a2' a3 b1 b2 b3
        have HR := Lib.hid hrel
        have wq : ∀ (o : Obj) (c : Addr) (v : Value), wo.cell? c = some v → (wo.alloc o).cell? c = some v := fun o c v h => (((Below.refl wo.heap.size wo).alloc (Nat.le_refl _) o).cell (kblock_lt h)).trans h
        have w0 : ∀ o, _ := fun o => wq o _ _ b0
        have w1 : ∀ o, _ := fun o => wq o _ _ b1
        have w2 : ∀ o, _ := fun o => wq o _ _ b2
        have w3 : ∀ o, _ := fun o => wq o _ _ b3
        have w4 : ∀ o, _ := fun o => wq o _ _ g23
        clear hrel hae hx hy hA hB hK hL wq f13 f23 f14 f24 IH
        have hb2 : ∀ o1 o2 : Obj, Below w.heap.size w ((wo.alloc o1).alloc o2) := fun o1 o2 => (hbo.alloc (by omega) _).alloc (by simp; omega) _
        have hb3 : ∀ o1 o2 : Obj, Below (w.heap.size + 2) W0 ((wo.alloc o1).alloc o2) := fun o1 o2 => (hbel.alloc hzo _).alloc (by simp; omega) _
        by_cases e1 : xs = ys
        case neg =>
          have HN := Lib.hid (show R = false by rw [HD2.out, HR.out, decide_eq_false (fun q => e1 q.1)]; rfl)
          have p1 := str_ne e1
          have p2 := str_ne2 e1
          have p3 := str_ne3 e1
          clear e1 HR
          go_wp2
          go_ret
          exact ⟨trB (by rw [HN.out]), hb2 _ _⟩
        subst e1
        by_cases e2 : xn = yn
        case neg =>
          have HN := Lib.hid (show R = false by rw [HD2.out, HR.out, decide_eq_false (fun q => e2 q.2.1)]; rfl)
          have p1 := str_ne e2
          have p2 := str_ne2 e2
          have p3 := str_ne3 e2
          clear e2 HR
          go_wp2
          go_ret
          exact ⟨trB (by rw [HN.out]), hb2 _ _⟩
        subst e2
        by_cases e3 : xv = yv
        case neg =>
          have HN := Lib.hid (show R = false by rw [HD2.out, HR.out, decide_eq_false (fun q => e3 q.2.2.1)]; rfl)
          have p1 := str_ne e3
          have p2 := str_ne2 e3
          have p3 := str_ne3 e3
          clear e3 HR
          go_wp2
          go_ret
          exact ⟨trB (by rw [HN.out]), hb2 _ _⟩
        subst e3
        by_cases e4 : O = true ∧ xa ≠ ya
        case pos =>
          first
            | (exact absurd (HO.out.symm.trans e4.1) (by decide))
            | (have HN := Lib.hid (show R = false by rw [HD2.out, HR.out, decide_eq_false (fun q => e4.2 (q.2.2.2 e4.1))]; rfl)
               have p1 : (xa != ya) = true := by simpa using e4.2
               clear e4 HR
               go_wp2
               go_ret
               exact ⟨trB (by rw [HN.out]), hb2 _ _⟩)
        case neg =>
          have hxa : O = true → xa = ya := fun e => Classical.byContradiction fun q => e4 ⟨e, q⟩
          have HN := Lib.hid (show allEq O al bl = allEq O (al.drop (i + 1)) (bl.drop (i + 1)) by rw [HR.out, decide_eq_true ⟨rfl, rfl, rfl, hxa⟩, Bool.true_and])
          skip
          clear e4 HR hxa
          go_wp2
          go_roundw
          case rel => exact ⟨i + 1, by omega, by go_num, HN.out, hb3 _ _⟩
          case measure => simp [intOf]; omega
      case neg =>
        obtain rfl : i = al.length := by omega
        have hall : allEq O al bl = true := by rw [hrel, List.drop_eq_nil_of_le (Nat.le_refl _), allEq]
        have HE := Lib.hid (show R = eqsB O kids lids by rw [HD2.out, hall, Bool.true_and])
        have g14 := (hbel.cell (p := ⟨w.heap.size, 4, none⟩) (by show w.heap.size < _; omega)).trans f14
        have hiz : ¬ (al.length : Int) < (al.length : Int) := by omega
        clear hrel hall hA hB g23 f13 f23 HD2
        go_wp2
        go_loopw [10] (fun q wr => ∃ j : Nat, j ≤ kids.length ∧ q = .int .i64 j ∧ eqsB O kids lids = eqsB O (kids.drop j) (lids.drop j) ∧ Below (w.heap.size + 2) W0 wr) (fun q _ => kids.length - (intOf q).toNat)
        case atStart => exact ⟨0, Nat.zero_le _, rfl, rfl, hbel⟩
        case round =>
          clear g13 g14 hbel hbo hzo
          obtain ⟨j, hj, rfl, hrl, hbl⟩ := hrel
          obtain ⟨wi, rfl⟩ : ∃ wi, wi = wr := ⟨_, rfl⟩
          have hzi : w.heap.size + 2 ≤ wi.heap.size := by have := hbl.size; omega
          have hbi : Below w.heap.size w wi := hbw.trans (hbl.mono (by omega))
          have k14 := (hbl.cell (p := ⟨w.heap.size, 4, none⟩) (by show w.heap.size < _; omega)).trans f14
          have k24 := (hbl.cell (p := ⟨w.heap.size + 1, 4, none⟩) (by show w.heap.size + 1 < _; omega)).trans f24
          by_cases hjl : j < kids.length
          case pos =>
            have hjm : j < lids.length := by have := H7.out; omega
            have hjz : (j : Int) < (kids.length : Int) := by omega
            have hj0 : (0 : Int) ≤ (j : Int) := by omega
            obtain ⟨a, v0, v1, v2, v3, v4, v5, v6, rfl, ⟨a0, a1', a2', a3, a4, a5, a6⟩, hk⟩ := KidsAt.get kids 0 (hK.below hbi) j hjl
            obtain ⟨b, u0, u1, u2, u3, u4, u5, u6, rfl, ⟨b0, b1, b2, b3, b4, b5, b6⟩, hl⟩ := KidsAt.get lids 0 (hL.below hbi) j hjm
            rw [Nat.zero_add] at a0 a1' a2' a3 a4 a5 a6 b0 b1 b2 b3 b4 b5 b6
            rw [eqsB_drop O kids lids j hjl hjm] at hrl
            have hmem : kids[j] ∈ kids := List.getElem_mem _
            have c1 := IH kids[j] lids[j] _ _ wi.drew (HKM.out _ hmem).1 (HKM.out _ hmem).2 (NodeIs.below ((Below.refl _ _).drew) _ _ hk) (NodeIs.below ((Below.refl _ _).drew) _ _ hl)
            obtain ⟨r, hr⟩ : ∃ r, NodeD.eqB O kids[j] lids[j] = r := ⟨_, rfl⟩
            rw [hr] at c1 hrl
            obtain ⟨cc, hcc⟩ : ∃ c, a.add (j * 7) = c := ⟨_, rfl⟩
            obtain ⟨dd, hdd⟩ : ∃ c, b.add (j * 7) = c := ⟨_, rfl⟩
            rw [hcc] at a0 a1' a2' a3 a4 a5 a6
            rw [hdd] at b0 b1 b2 b3 b4 b5 b6
            simp only [Addr.add, Nat.reduceEqDiff, ↓reduceIte] at a1' a2' a3 a4 a5 a6 b1 b2 b3 b4 b5 b6
            have HR := Lib.hid hrl
            have kS : ∀ w5, Below wi.drew.heap.size wi.drew w5 → (w5.cell? ⟨w.heap.size, 4, none⟩ = some (.slice (some a) kids.length ck) ∧ w5.cell? ⟨w.heap.size + 1, 4, none⟩ = some (.slice (some b) kids.length dk)) ∧ (w5.cell? cc = some v0 ∧ w5.cell? ⟨cc.block, cc.off + 1, none⟩ = some v1 ∧ w5.cell? ⟨cc.block, cc.off + 2, none⟩ = some v2 ∧ w5.cell? ⟨cc.block, cc.off + 3, none⟩ = some v3 ∧ w5.cell? ⟨cc.block, cc.off + 4, none⟩ = some v4 ∧ w5.cell? ⟨cc.block, cc.off + 5, none⟩ = some v5 ∧ w5.cell? ⟨cc.block, cc.off + 6, none⟩ = some v6) ∧ (w5.cell? dd = some u0 ∧ w5.cell? ⟨dd.block, dd.off + 1, none⟩ = some u1 ∧ w5.cell? ⟨dd.block, dd.off + 2, none⟩ = some u2 ∧ w5.cell? ⟨dd.block, dd.off + 3, none⟩ = some u3 ∧ w5.cell? ⟨dd.block, dd.off + 4, none⟩ = some u4 ∧ w5.cell? ⟨dd.block, dd.off + 5, none⟩ = some u5 ∧ w5.cell? ⟨dd.block, dd.off + 6, none⟩ = some u6) := fun w5 bb => ⟨⟨(bb.cell (kblock_lt k14)).trans k14, (bb.cell (kblock_lt k24)).trans k24⟩, ⟨(bb.cell (kblock_lt a0)).trans a0, (bb.cell (kblock_lt a1')).trans a1', (bb.cell (kblock_lt a2')).trans a2', (bb.cell (kblock_lt a3)).trans a3, (bb.cell (kblock_lt a4)).trans a4, (bb.cell (kblock_lt a5)).trans a5, (bb.cell (kblock_lt a6)).trans a6⟩, ⟨(bb.cell (kblock_lt b0)).trans b0, (bb.cell (kblock_lt b1)).trans b1, (bb.cell (kblock_lt b2)).trans b2, (bb.cell (kblock_lt b3)).trans b3, (bb.cell (kblock_lt b4)).trans b4, (bb.cell (kblock_lt b5)).trans b5, (bb.cell (kblock_lt b6)).trans b6⟩⟩
            clear hrl hr hk hl hK hL hmem IH HKM f14 f24
            go_wp2
            go_region_held3 (fun w' => (w'.cell? ⟨w.heap.size, 4, none⟩ = some (.slice (some a) kids.length ck) ∧ w'.cell? ⟨w.heap.size + 1, 4, none⟩ = some (.slice (some b) kids.length dk)) ∧ (w'.cell? cc = some v0 ∧ w'.cell? ⟨cc.block, cc.off + 1, none⟩ = some v1 ∧ w'.cell? ⟨cc.block, cc.off + 2, none⟩ = some v2 ∧ w'.cell? ⟨cc.block, cc.off + 3, none⟩ = some v3 ∧ w'.cell? ⟨cc.block, cc.off + 4, none⟩ = some v4 ∧ w'.cell? ⟨cc.block, cc.off + 5, none⟩ = some v5 ∧ w'.cell? ⟨cc.block, cc.off + 6, none⟩ = some v6) ∧ (w'.cell? dd = some u0 ∧ w'.cell? ⟨dd.block, dd.off + 1, none⟩ = some u1 ∧ w'.cell? ⟨dd.block, dd.off + 2, none⟩ = some u2 ∧ w'.cell? ⟨dd.block, dd.off + 3, none⟩ = some u3 ∧ w'.cell? ⟨dd.block, dd.off + 4, none⟩ = some u4 ∧ w'.cell? ⟨dd.block, dd.off + 5, none⟩ = some u5 ∧ w'.cell? ⟨dd.block, dd.off + 6, none⟩ = some u6)) (first | exact ⟨⟨k14, k24⟩, ⟨a0, a1', a2', a3, a4, a5, a6⟩, ⟨b0, b1, b2, b3, b4, b5, b6⟩⟩ | exact hS5) (first | (go_at_call 15; refine c1.mono ?_; rintro e w5 ⟨rfl, b5'⟩; have hS5 := kS w5 b5'))
            have hb5 : Below (w.heap.size + 2) W0 w5 := hbl.drew.trans (b5'.mono hzi)
            have hbw5 : Below w.heap.size w w5 := hbw.trans (hb5.mono (by omega))
            clear kS hS5 c1 k14 k24 a0 a1' a2' a3 a4 a5 a6 b0 b1 b2 b3 b4 b5 b6
            rcases r with _ | _
            · have HX := Lib.hid (show R = false by rw [HE.out, HR.out]; rfl)
              go_wp2
              go_ret
              exact ⟨trB (by rw [HX.out]), hbw5⟩
            · have HX := Lib.hid (HR.out.trans (Bool.true_and _))
              go_wp2
              go_roundw
              case rel => exact ⟨j + 1, by omega, by go_num, HX.out, hb5⟩
              case measure => simp [intOf]; omega
          case neg =>
            obtain rfl : j = kids.length := by omega
            have HX := Lib.hid (show R = true by rw [HE.out, hrl, List.drop_eq_nil_of_le (Nat.le_refl _), eqsB])
            have hjz : ¬ (kids.length : Int) < (kids.length : Int) := by omega
            clear hrl hK hL
            go_wp2
            go_ret
            exact ⟨trB (by rw [HX.out]), hbi⟩
end Go.Proofs.YtoehcholbcchcaaDoor
end
section
namespace Go.Proofs.YtoehcholbcchcaaDoor
open Go.RowKit
set_option maxRecDepth 100000 in
set_option maxHeartbeats 32000000 in
theorem eq_main_true (f : Nat) (IH0 : EqC true f) : EqM true f := by
    intro O hO w k1 s1 n1 t1 a1 a2 al bl kids lids pa pk qa qk ca ck da dk R hR hq5 h6 h7 hkm hkl hal hA hK hB hL
    have HKM := Lib.hid hkm
    have H6 := Lib.hid h6
    have H7 := Lib.hid h7
    have HD2 := Lib.hid hR
    have HO := Lib.hid hO
    have IH : ∀ (n m : NodeD) (v u : Value) (w : World), n.wt ≤ f → n.wt ≤ 100000000 → NodeIs w n v → NodeIs w m u → Calls Tryd.prog 15 #[v, u, .bool true] w fun e w' => e = .returned (.bool (n.eqB O m)) ∧ Below w.heap.size w w' := fun n m v u w a b c d => by rw [hO]; exact IH0 n m v u w a b c d
    have hbw : Below w.heap.size w ((w.alloc (.cells #[.int .i64 k1, .string s1, .string n1, .slice pa al.length ca, .slice pk kids.length ck, .string t1, .int .i64 a1] 29)).alloc (.cells #[.int .i64 k1, .string s1, .string n1, .slice qa al.length da, .slice qk kids.length dk, .string t1, .int .i64 a2] 29)) := ((Below.refl _ _).alloc (Nat.le_refl _) _).alloc (by simp) _
    have q5 := hq5 rfl
    clear hO hR h6 h7 hkm hq5 IH0
    have f13 : ((w.alloc (.cells #[.int .i64 k1, .string s1, .string n1, .slice pa al.length ca, .slice pk kids.length ck, .string t1, .int .i64 a1] 29)).alloc (.cells #[.int .i64 k1, .string s1, .string n1, .slice qa al.length da, .slice qk kids.length dk, .string t1, .int .i64 a2] 29)).cell? ⟨w.heap.size, 3, none⟩ = some (.slice pa al.length ca) := by simp
    have f23 : ((w.alloc (.cells #[.int .i64 k1, .string s1, .string n1, .slice pa al.length ca, .slice pk kids.length ck, .string t1, .int .i64 a1] 29)).alloc (.cells #[.int .i64 k1, .string s1, .string n1, .slice qa al.length da, .slice qk kids.length dk, .string t1, .int .i64 a2] 29)).cell? ⟨w.heap.size + 1, 3, none⟩ = some (.slice qa al.length da) := by simp
    have f14 : ((w.alloc (.cells #[.int .i64 k1, .string s1, .string n1, .slice pa al.length ca, .slice pk kids.length ck, .string t1, .int .i64 a1] 29)).alloc (.cells #[.int .i64 k1, .string s1, .string n1, .slice qa al.length da, .slice qk kids.length dk, .string t1, .int .i64 a2] 29)).cell? ⟨w.heap.size, 4, none⟩ = some (.slice pk kids.length ck) := by simp
    have f24 : ((w.alloc (.cells #[.int .i64 k1, .string s1, .string n1, .slice pa al.length ca, .slice pk kids.length ck, .string t1, .int .i64 a1] 29)).alloc (.cells #[.int .i64 k1, .string s1, .string n1, .slice qa al.length da, .slice qk kids.length dk, .string t1, .int .i64 a2] 29)).cell? ⟨w.heap.size + 1, 4, none⟩ = some (.slice qk kids.length dk) := by simp
    have hz0 : ((w.alloc (.cells #[.int .i64 k1, .string s1, .string n1, .slice pa al.length ca, .slice pk kids.length ck, .string t1, .int .i64 a1] 29)).alloc (.cells #[.int .i64 k1, .string s1, .string n1, .slice qa al.length da, .slice qk kids.length dk, .string t1, .int .i64 a2] 29)).heap.size = w.heap.size + 2 := by simp
    go_enter Tryd.func15, Tryd.ntmps15
    go_wp2
    generalize ((w.alloc (.cells #[.int .i64 k1, .string s1, .string n1, .slice pa al.length ca, .slice pk kids.length ck, .string t1, .int .i64 a1] 29)).alloc (.cells #[.int .i64 k1, .string s1, .string n1, .slice qa al.length da, .slice qk kids.length dk, .string t1, .int .i64 a2] 29)) = W0 at *
    go_loopw [7] (fun q wr => ∃ i : Nat, i ≤ al.length ∧ q = .int .i64 i ∧ allEq O al bl = allEq O (al.drop i) (bl.drop i) ∧ Below (w.heap.size + 2) W0 wr) (fun q _ => al.length - (intOf q).toNat)
    case atStart => exact ⟨0, Nat.zero_le _, rfl, rfl, Below.refl _ _⟩
    case round =>
      obtain ⟨i, hi, rfl, hrel, hbel⟩ := hrel
      obtain ⟨wo, rfl⟩ : ∃ wo, wo = wr := ⟨_, rfl⟩
      have hzo : w.heap.size + 2 ≤ wo.heap.size := by have := hbel.size; omega
      have hbo : Below w.heap.size w wo := hbw.trans (hbel.mono (by omega))
      have g13 := (hbel.cell (p := ⟨w.heap.size, 3, none⟩) (by show w.heap.size < _; omega)).trans f13
      have g23 := (hbel.cell (p := ⟨w.heap.size + 1, 3, none⟩) (by show w.heap.size + 1 < _; omega)).trans f23
      by_cases hlt : i < al.length
      case pos =>
        have hiz : (i : Int) < (al.length : Int) := by omega
        have hltm : i < bl.length := by have := H6.out; omega
        obtain ⟨a, rfl, a0, a1', a2', a3⟩ := hA.below hbo i hlt
        obtain ⟨b, rfl, b0, b1, b2, b3⟩ := hB.below hbo i hltm
        rw [allEq_drop O al bl i hlt hltm] at hrel
        obtain ⟨x, hx⟩ : ∃ x, al[i] = x := ⟨_, rfl⟩
        obtain ⟨y, hy⟩ : ∃ y, bl[i] = y := ⟨_, rfl⟩
        rw [hx] at a0 a1' a2' a3
        rw [hy] at b0 b1 b2 b3
        rw [hx, hy] at hrel
        obtain ⟨xs, xn, xv, xa⟩ := x
        obtain ⟨ys, yn, yv, ya⟩ := y
        simp only at a0 a1' a2' a3 b0 b1 b2 b3
        have hae : attrEqB O ⟨xs, xn, xv, xa⟩ ⟨ys, yn, yv, ya⟩ = decide (xs = ys ∧ xn = yn ∧ xv = yv ∧ (O = true → xa = ya)) := rfl
        rw [hae] at hrel
        obtain ⟨cc, hcc⟩ : ∃ c, a.add (i * 4) = c := ⟨_, rfl⟩
        obtain ⟨dd, hdd⟩ : ∃ c, b.add (i * 4) = c := ⟨_, rfl⟩
        rw [hcc] at a0 a1' a2' a3
        rw [hdd] at b0 b1 b2 b3
        simp only [Addr.add, Nat.reduceEqDiff, ↓reduceIte] at a1' a2' a3 b1 b2 b3
        have HR := Lib.hid hrel
        have wq : ∀ (o : Obj) (c : Addr) (v : Value), wo.cell? c = some v → (wo.alloc o).cell? c = some v := fun o c v h => (((Below.refl wo.heap.size wo).alloc (Nat.le_refl _) o).cell (kblock_lt h)).trans h
        have w0 : ∀ o, _ := fun o => wq o _ _ b0
        have w1 : ∀ o, _ := fun o => wq o _ _ b1
        have w2 : ∀ o, _ := fun o => wq o _ _ b2
        have w3 : ∀ o, _ := fun o => wq o _ _ b3
        have w4 : ∀ o, _ := fun o => wq o _ _ g23
        clear hrel hae hx hy hA hB hK hL wq f13 f23 f14 f24 IH
        have hb2 : ∀ o1 o2 : Obj, Below w.heap.size w ((wo.alloc o1).alloc o2) := fun o1 o2 => (hbo.alloc (by omega) _).alloc (by simp; omega) _
        have hb3 : ∀ o1 o2 : Obj, Below (w.heap.size + 2) W0 ((wo.alloc o1).alloc o2) := fun o1 o2 => (hbel.alloc hzo _).alloc (by simp; omega) _
        by_cases e1 : xs = ys
        case neg =>
          have HN := Lib.hid (show R = false by rw [HD2.out, HR.out, decide_eq_false (fun q => e1 q.1)]; rfl)
          have p1 := str_ne e1
          have p2 := str_ne2 e1
          have p3 := str_ne3 e1
          clear e1 HR
          go_wp2
          go_ret
          exact ⟨trB (by rw [HN.out]), hb2 _ _⟩
        subst e1
        by_cases e2 : xn = yn
        case neg =>
          have HN := Lib.hid (show R = false by rw [HD2.out, HR.out, decide_eq_false (fun q => e2 q.2.1)]; rfl)
          have p1 := str_ne e2
          have p2 := str_ne2 e2
          have p3 := str_ne3 e2
          clear e2 HR
          go_wp2
          go_ret
          exact ⟨trB (by rw [HN.out]), hb2 _ _⟩
        subst e2
        by_cases e3 : xv = yv
        case neg =>
          have HN := Lib.hid (show R = false by rw [HD2.out, HR.out, decide_eq_false (fun q => e3 q.2.2.1)]; rfl)
          have p1 := str_ne e3
          have p2 := str_ne2 e3
          have p3 := str_ne3 e3
          clear e3 HR
          go_wp2
          go_ret
          exact ⟨trB (by rw [HN.out]), hb2 _ _⟩
        subst e3
        by_cases e4 : O = true ∧ xa ≠ ya
        case pos =>
          first
            | (exact absurd (HO.out.symm.trans e4.1) (by decide))
            | (have HN := Lib.hid (show R = false by rw [HD2.out, HR.out, decide_eq_false (fun q => e4.2 (q.2.2.2 e4.1))]; rfl)
               have p1 : (xa != ya) = true := by simpa using e4.2
               clear e4 HR
               go_wp2
               go_ret
               exact ⟨trB (by rw [HN.out]), hb2 _ _⟩)
        case neg =>
          have hxa : O = true → xa = ya := fun e => Classical.byContradiction fun q => e4 ⟨e, q⟩
          have HN := Lib.hid (show allEq O al bl = allEq O (al.drop (i + 1)) (bl.drop (i + 1)) by rw [HR.out, decide_eq_true ⟨rfl, rfl, rfl, hxa⟩, Bool.true_and])
          have q9 : (xa != ya) = false := by simp [hxa HO.out]
          clear e4 HR hxa
          go_wp2
          go_roundw
          case rel => exact ⟨i + 1, by omega, by go_num, HN.out, hb3 _ _⟩
          case measure => simp [intOf]; omega
      case neg =>
        obtain rfl : i = al.length := by omega
        have hall : allEq O al bl = true := by rw [hrel, List.drop_eq_nil_of_le (Nat.le_refl _), allEq]
        have HE := Lib.hid (show R = eqsB O kids lids by rw [HD2.out, hall, Bool.true_and])
        have g14 := (hbel.cell (p := ⟨w.heap.size, 4, none⟩) (by show w.heap.size < _; omega)).trans f14
        have hiz : ¬ (al.length : Int) < (al.length : Int) := by omega
        clear hrel hall hA hB g23 f13 f23 HD2
        go_wp2
        go_loopw [10] (fun q wr => ∃ j : Nat, j ≤ kids.length ∧ q = .int .i64 j ∧ eqsB O kids lids = eqsB O (kids.drop j) (lids.drop j) ∧ Below (w.heap.size + 2) W0 wr) (fun q _ => kids.length - (intOf q).toNat)
        case atStart => exact ⟨0, Nat.zero_le _, rfl, rfl, hbel⟩
        case round =>
          clear g13 g14 hbel hbo hzo
          obtain ⟨j, hj, rfl, hrl, hbl⟩ := hrel
          obtain ⟨wi, rfl⟩ : ∃ wi, wi = wr := ⟨_, rfl⟩
          have hzi : w.heap.size + 2 ≤ wi.heap.size := by have := hbl.size; omega
          have hbi : Below w.heap.size w wi := hbw.trans (hbl.mono (by omega))
          have k14 := (hbl.cell (p := ⟨w.heap.size, 4, none⟩) (by show w.heap.size < _; omega)).trans f14
          have k24 := (hbl.cell (p := ⟨w.heap.size + 1, 4, none⟩) (by show w.heap.size + 1 < _; omega)).trans f24
          by_cases hjl : j < kids.length
          case pos =>
            have hjm : j < lids.length := by have := H7.out; omega
            have hjz : (j : Int) < (kids.length : Int) := by omega
            have hj0 : (0 : Int) ≤ (j : Int) := by omega
            obtain ⟨a, v0, v1, v2, v3, v4, v5, v6, rfl, ⟨a0, a1', a2', a3, a4, a5, a6⟩, hk⟩ := KidsAt.get kids 0 (hK.below hbi) j hjl
            obtain ⟨b, u0, u1, u2, u3, u4, u5, u6, rfl, ⟨b0, b1, b2, b3, b4, b5, b6⟩, hl⟩ := KidsAt.get lids 0 (hL.below hbi) j hjm
            rw [Nat.zero_add] at a0 a1' a2' a3 a4 a5 a6 b0 b1 b2 b3 b4 b5 b6
            rw [eqsB_drop O kids lids j hjl hjm] at hrl
            have hmem : kids[j] ∈ kids := List.getElem_mem _
            have c1 := IH kids[j] lids[j] _ _ wi.drew (HKM.out _ hmem).1 (HKM.out _ hmem).2 (NodeIs.below ((Below.refl _ _).drew) _ _ hk) (NodeIs.below ((Below.refl _ _).drew) _ _ hl)
            obtain ⟨r, hr⟩ : ∃ r, NodeD.eqB O kids[j] lids[j] = r := ⟨_, rfl⟩
            rw [hr] at c1 hrl
            obtain ⟨cc, hcc⟩ : ∃ c, a.add (j * 7) = c := ⟨_, rfl⟩
            obtain ⟨dd, hdd⟩ : ∃ c, b.add (j * 7) = c := ⟨_, rfl⟩
            rw [hcc] at a0 a1' a2' a3 a4 a5 a6
            rw [hdd] at b0 b1 b2 b3 b4 b5 b6
            simp only [Addr.add, Nat.reduceEqDiff, ↓reduceIte] at a1' a2' a3 a4 a5 a6 b1 b2 b3 b4 b5 b6
            have HR := Lib.hid hrl
            have kS : ∀ w5, Below wi.drew.heap.size wi.drew w5 → (w5.cell? ⟨w.heap.size, 4, none⟩ = some (.slice (some a) kids.length ck) ∧ w5.cell? ⟨w.heap.size + 1, 4, none⟩ = some (.slice (some b) kids.length dk)) ∧ (w5.cell? cc = some v0 ∧ w5.cell? ⟨cc.block, cc.off + 1, none⟩ = some v1 ∧ w5.cell? ⟨cc.block, cc.off + 2, none⟩ = some v2 ∧ w5.cell? ⟨cc.block, cc.off + 3, none⟩ = some v3 ∧ w5.cell? ⟨cc.block, cc.off + 4, none⟩ = some v4 ∧ w5.cell? ⟨cc.block, cc.off + 5, none⟩ = some v5 ∧ w5.cell? ⟨cc.block, cc.off + 6, none⟩ = some v6) ∧ (w5.cell? dd = some u0 ∧ w5.cell? ⟨dd.block, dd.off + 1, none⟩ = some u1 ∧ w5.cell? ⟨dd.block, dd.off + 2, none⟩ = some u2 ∧ w5.cell? ⟨dd.block, dd.off + 3, none⟩ = some u3 ∧ w5.cell? ⟨dd.block, dd.off + 4, none⟩ = some u4 ∧ w5.cell? ⟨dd.block, dd.off + 5, none⟩ = some u5 ∧ w5.cell? ⟨dd.block, dd.off + 6, none⟩ = some u6) := fun w5 bb => ⟨⟨(bb.cell (kblock_lt k14)).trans k14, (bb.cell (kblock_lt k24)).trans k24⟩, ⟨(bb.cell (kblock_lt a0)).trans a0, (bb.cell (kblock_lt a1')).trans a1', (bb.cell (kblock_lt a2')).trans a2', (bb.cell (kblock_lt a3)).trans a3, (bb.cell (kblock_lt a4)).trans a4, (bb.cell (kblock_lt a5)).trans a5, (bb.cell (kblock_lt a6)).trans a6⟩, ⟨(bb.cell (kblock_lt b0)).trans b0, (bb.cell (kblock_lt b1)).trans b1, (bb.cell (kblock_lt b2)).trans b2, (bb.cell (kblock_lt b3)).trans b3, (bb.cell (kblock_lt b4)).trans b4, (bb.cell (kblock_lt b5)).trans b5, (bb.cell (kblock_lt b6)).trans b6⟩⟩
            clear hrl hr hk hl hK hL hmem IH HKM f14 f24
            go_wp2
            go_region_held3 (fun w' => (w'.cell? ⟨w.heap.size, 4, none⟩ = some (.slice (some a) kids.length ck) ∧ w'.cell? ⟨w.heap.size + 1, 4, none⟩ = some (.slice (some b) kids.length dk)) ∧ (w'.cell? cc = some v0 ∧ w'.cell? ⟨cc.block, cc.off + 1, none⟩ = some v1 ∧ w'.cell? ⟨cc.block, cc.off + 2, none⟩ = some v2 ∧ w'.cell? ⟨cc.block, cc.off + 3, none⟩ = some v3 ∧ w'.cell? ⟨cc.block, cc.off + 4, none⟩ = some v4 ∧ w'.cell? ⟨cc.block, cc.off + 5, none⟩ = some v5 ∧ w'.cell? ⟨cc.block, cc.off + 6, none⟩ = some v6) ∧ (w'.cell? dd = some u0 ∧ w'.cell? ⟨dd.block, dd.off + 1, none⟩ = some u1 ∧ w'.cell? ⟨dd.block, dd.off + 2, none⟩ = some u2 ∧ w'.cell? ⟨dd.block, dd.off + 3, none⟩ = some u3 ∧ w'.cell? ⟨dd.block, dd.off + 4, none⟩ = some u4 ∧ w'.cell? ⟨dd.block, dd.off + 5, none⟩ = some u5 ∧ w'.cell? ⟨dd.block, dd.off + 6, none⟩ = some u6)) (first | exact ⟨⟨k14, k24⟩, ⟨a0, a1', a2', a3, a4, a5, a6⟩, ⟨b0, b1, b2, b3, b4, b5, b6⟩⟩ | exact hS5) (first | (go_at_call 15; refine c1.mono ?_; rintro e w5 ⟨rfl, b5'⟩; have hS5 := kS w5 b5'))
            have hb5 : Below (w.heap.size + 2) W0 w5 := hbl.drew.trans (b5'.mono hzi)
            have hbw5 : Below w.heap.size w w5 := hbw.trans (hb5.mono (by omega))
            clear kS hS5 c1 k14 k24 a0 a1' a2' a3 a4 a5 a6 b0 b1 b2 b3 b4 b5 b6
            rcases r with _ | _
            · have HX := Lib.hid (show R = false by rw [HE.out, HR.out]; rfl)
              go_wp2
              go_ret
              exact ⟨trB (by rw [HX.out]), hbw5⟩
            · have HX := Lib.hid (HR.out.trans (Bool.true_and _))
              go_wp2
              go_roundw
              case rel => exact ⟨j + 1, by omega, by go_num, HX.out, hb5⟩
              case measure => simp [intOf]; omega
          case neg =>
            obtain rfl : j = kids.length := by omega
            have HX := Lib.hid (show R = true by rw [HE.out, hrl, List.drop_eq_nil_of_le (Nat.le_refl _), eqsB])
            have hjz : ¬ (kids.length : Int) < (kids.length : Int) := by omega
            clear hrl hK hL
            go_wp2
            go_ret
            exact ⟨trB (by rw [HX.out]), hbi⟩
theorem tref_Equal : ∀ (off : Bool) (f : Nat), EqC off f
  | _, 0 => fun n _ _ _ _ hf _ _ _ => absurd hf (by have := wt_eq n; omega)
  | false, f + 1 => eq_heads false f (eq_main_false f (tref_Equal false f))
  | true, f + 1 => eq_heads true f (eq_main_true f (tref_Equal true f))
end Go.Proofs.YtoehcholbcchcaaDoor
end
section
namespace Go.Proofs.YtoehcholbcchcaaDoor
open Go.RowKit
def A8 (w' : World) (c d : Addr) (x y : AttrD) : Prop := w'.cell? c = some (.string x.sp) ∧ w'.cell? ⟨c.block, c.off + 1, none⟩ = some (.string x.nm) ∧ w'.cell? ⟨c.block, c.off + 2, none⟩ = some (.string x.va) ∧ w'.cell? ⟨c.block, c.off + 3, none⟩ = some (.int .i64 x.at') ∧ w'.cell? d = some (.string y.sp) ∧ w'.cell? ⟨d.block, d.off + 1, none⟩ = some (.string y.nm) ∧ w'.cell? ⟨d.block, d.off + 2, none⟩ = some (.string y.va) ∧ w'.cell? ⟨d.block, d.off + 3, none⟩ = some (.int .i64 y.at')
theorem A8.below {w1 w2 : World} {c d : Addr} {x y : AttrD} (h : A8 w1 c d x y) (hb : Below w1.heap.size w1 w2) : A8 w2 c d x y := by
  obtain ⟨h0, h1, h2, h3, h4, h5, h6, h7⟩ := h
  exact ⟨(hb.cell (kblock_lt h0)).trans h0, (hb.cell (kblock_lt h1)).trans h1, (hb.cell (kblock_lt h2)).trans h2, (hb.cell (kblock_lt h3)).trans h3, (hb.cell (kblock_lt h4)).trans h4, (hb.cell (kblock_lt h5)).trans h5, (hb.cell (kblock_lt h6)).trans h6, (hb.cell (kblock_lt h7)).trans h7⟩
end Go.Proofs.YtoehcholbcchcaaDoor
end
section
namespace Go.Proofs.YtoehcholbcchcaaDoor
open Go.RowKit
mutual
theorem FreshIs.is {w : World} {B : Nat} : ∀ (n : NodeD) (v : Value), FreshIs w B n v → NodeIs w n v
  | .mk kind sp nm al kids tx at', v, h => by
    rw [FreshIs] at h
    obtain ⟨va, vk, xs, rfl, ha, hk, hr⟩ := h
    obtain ⟨pa, ca, rfl⟩ := row_val ha
    rw [NodeIs]
    rcases hk.2 with ⟨rfl, h0⟩ | ⟨g, cap, cur, rfl, _, hh, _⟩
    · have : kids = [] := List.length_eq_zero_iff.1 h0
      subst this
      exact ⟨pa, ca, none, 0, rfl, attrs_of_row ha, by rw [KidsAt]; trivial⟩
    · refine ⟨pa, ca, _, cap, rfl, attrs_of_row ha, FreshKids.is kids xs 0 g hr (fun j u hu => ?_)⟩
      have hc := hk.cells (g := g) rfl j u hu
      rw [show (⟨g, 0, none⟩ : Addr).add j = ⟨g, j, none⟩ by unfold Addr.add; split <;> simp_all] at hc
      rw [show 0 * 7 + j = j by omega]
      exact hc
theorem FreshKids.is {w : World} {B : Nat} : ∀ (l : List NodeD) (xs : List Value) (i g : Nat), FreshKids w B l xs → (∀ j u, xs[j]? = some u → w.cell? ⟨g, i * 7 + j, none⟩ = some u) → KidsAt w (some ⟨g, 0, none⟩) i l
  | [], xs, i, g, _, _ => by rw [KidsAt]; trivial
  | k :: r, xs, i, g, h, hc => by
    rw [FreshKids] at h
    obtain ⟨v0, v1, v2, v3, v4, v5, v6, ys, rfl, hn, hr⟩ := h
    rw [KidsAt]
    have ha : ∀ o, (⟨g, 0, none⟩ : Addr).add o = ⟨g, o, none⟩ := fun o => by unfold Addr.add; split <;> simp_all
    have hb : ∀ o q, (⟨g, o, none⟩ : Addr).add q = ⟨g, o + q, none⟩ := fun o q => by unfold Addr.add; split <;> simp_all
    refine ⟨⟨⟨g, 0, none⟩, v0, v1, v2, v3, v4, v5, v6, rfl, ?_, FreshIs.is k _ hn⟩, FreshKids.is r ys (i + 1) g hr (fun j u hu => ?_)⟩
    · rw [ha]
      simp only [hb]
      exact ⟨hc 0 v0 rfl, hc 1 v1 rfl, hc 2 v2 rfl, hc 3 v3 rfl, hc 4 v4 rfl, hc 5 v5 rfl, hc 6 v6 rfl⟩
    · have := hc (7 + j) u (by rw [show 7 + j = j + 1 + 1 + 1 + 1 + 1 + 1 + 1 by omega]; simpa using hu)
      rw [show (i + 1) * 7 + j = i * 7 + (7 + j) by omega]
      exact this
end
def Box (w : World) (b : Nat) (pa : Option Addr) (ca : Nat) (pk : Option Addr) (ck : Nat) : Prop := w.cell? ⟨b, 0, none⟩ = some (.int .i64 0) ∧ w.cell? ⟨b, 1, none⟩ = some (.string ⟨#[]⟩) ∧ w.cell? ⟨b, 2, none⟩ = some (.string ⟨#[97]⟩) ∧ w.cell? ⟨b, 3, none⟩ = some (.slice pa 0 ca) ∧ w.cell? ⟨b, 4, none⟩ = some (.slice pk 2 ck) ∧ w.cell? ⟨b, 5, none⟩ = some (.string ⟨#[]⟩) ∧ w.cell? ⟨b, 6, none⟩ = some (.int .i64 0)
theorem Box.below {w w' : World} {b : Nat} {pa : Option Addr} {ca : Nat} {pk : Option Addr} {ck : Nat} (h : Box w b pa ca pk ck) (hb : Below w.heap.size w w') : Box w' b pa ca pk ck := by
  obtain ⟨h0, h1, h2, h3, h4, h5, h6⟩ := h
  exact ⟨(hb.cell (kblock_lt h0)).trans h0, (hb.cell (kblock_lt h1)).trans h1, (hb.cell (kblock_lt h2)).trans h2, (hb.cell (kblock_lt h3)).trans h3, (hb.cell (kblock_lt h4)).trans h4, (hb.cell (kblock_lt h5)).trans h5, (hb.cell (kblock_lt h6)).trans h6⟩
end Go.Proofs.YtoehcholbcchcaaDoor
end
section
namespace Go.Proofs.YtoehcholbcchcaaDoor
open Go.RowKit
def mn (s : ByteArray) : Nat := min s.size 9000
def wgtAs : List AttrD → Nat → Nat
  | [], T => T
  | x :: r, T => wgtAs r (T + (1 + mn x.sp + mn x.nm + mn x.va))
mutual
def NodeD.wgt : NodeD → Nat → Nat
  | .mk _ sp nm al kids tx _, T => wgtKs kids (wgtAs al (T + (1 + mn sp + mn nm + mn tx)))
def wgtKs : List NodeD → Nat → Nat
  | [], T => T
  | k :: r, T => if 9000 < T then T else wgtKs r (k.wgt T)
end
theorem wgt_eq (n : NodeD) (T : Nat) : n.wgt T = wgtKs n.kids (wgtAs n.al (T + (1 + mn n.sp + mn n.nm + mn n.tx))) := by cases n; rw [NodeD.wgt]; rfl
theorem mn_le (s : ByteArray) : mn s ≤ 9000 := Nat.min_le_right _ _
mutual
def NodeD.WF : NodeD → Prop
  | .mk _ _ _ al kids _ _ => al.length ≤ 140737488351232 ∧ kids.length ≤ 140737488351232 ∧ WFs kids
def WFs : List NodeD → Prop
  | [] => True
  | k :: r => k.WF ∧ WFs r
end
theorem wf_eq (n : NodeD) : n.WF ↔ n.al.length ≤ 140737488351232 ∧ n.kids.length ≤ 140737488351232 ∧ WFs n.kids := by cases n; rw [NodeD.WF]; exact Iff.rfl
theorem wfs_mem : ∀ (l : List NodeD), WFs l → ∀ k ∈ l, k.WF
  | [], _, _, h => by cases h
  | x :: r, h, k, hk => by
    rw [WFs] at h
    rcases List.mem_cons.1 hk with rfl | hk
    · exact h.1
    · exact wfs_mem r h.2 k hk
theorem wgtAs_le : ∀ (l : List AttrD) (T : Nat), T ≤ wgtAs l T ∧ wgtAs l T ≤ T + 27001 * l.length
  | [], T => ⟨Nat.le_refl _, Nat.le_refl _⟩
  | x :: r, T => by
    rw [wgtAs]
    have h := wgtAs_le r (T + (1 + mn x.sp + mn x.nm + mn x.va))
    have h1 := mn_le x.sp
    have h2 := mn_le x.nm
    have h3 := mn_le x.va
    rw [List.length_cons]
    omega
def mxW : Nat := 9000 + 27001 + 27001 * 140737488351232
mutual
theorem wgt_le : ∀ (n : NodeD) (T : Nat), n.WF → T ≤ 9000 → n.wgt T ≤ mxW
  | .mk k sp nm al kids tx a, T, h, hT => by
    rw [NodeD.wgt]
    rw [NodeD.WF] at h
    have h0 := wgtAs_le al (T + (1 + mn sp + mn nm + mn tx))
    have h1 := mn_le sp
    have h2 := mn_le nm
    have h3 := mn_le tx
    have hm : 27001 * al.length ≤ 27001 * 140737488351232 := Nat.mul_le_mul_left _ h.1
    exact wgtKs_le kids _ h.2.2 (by unfold mxW; omega)
theorem wgtKs_le : ∀ (l : List NodeD) (T : Nat), WFs l → T ≤ mxW → wgtKs l T ≤ mxW
  | [], T, _, hT => hT
  | k :: r, T, h, hT => by
    rw [wgtKs]
    rw [WFs] at h
    split
    · exact hT
    · exact wgtKs_le r _ h.2 (wgt_le k T h.1 (by omega))
end
theorem wgtAs_drop (l : List AttrD) (i : Nat) (h : i < l.length) (T : Nat) : wgtAs (l.drop i) T = wgtAs (l.drop (i + 1)) (T + (1 + mn l[i].sp + mn l[i].nm + mn l[i].va)) := by
  rw [List.drop_eq_getElem_cons h, wgtAs]
theorem wgtKs_drop (l : List NodeD) (i : Nat) (h : i < l.length) (T : Nat) : wgtKs (l.drop i) T = if 9000 < T then T else wgtKs (l.drop (i + 1)) (l[i].wgt T) := by
  rw [List.drop_eq_getElem_cons h, wgtKs]
theorem wrap_up {x : Int} (h0 : 0 ≤ x) (h1 : x ≤ 9000000000000000000) : IntKind.i64.wrap x = x := wrap_small x (by omega) (by omega)
set_option maxRecDepth 100000 in
set_option maxHeartbeats 8000000 in
theorem law_weight : ∀ (f : Nat) (n : NodeD) (v : Value) (T : Nat) (w : World), n.cnt ≤ f → n.WF → T ≤ 9000 → NodeIs w n v → Calls Tryd.prog 38 #[v, .int .i64 (T : Int)] w fun e w' => e = .returned (.int .i64 (n.wgt T : Nat)) ∧ Below w.heap.size w w'
  | 0, n, _, _, _, hf, _, _, _ => absurd hf (by have := cnt_eq n; omega)
  | f + 1, n, v, T, w, hf, hW, hT, hn => by
    have HD := Lib.hid (wgt_eq n T)
    have hmx := wgt_le n T hW hT
    have hkm : ∀ k ∈ n.kids, k.cnt ≤ f ∧ k.WF := fun k hk => ⟨by have := cnt_kid n k hk; omega, wfs_mem _ ((wf_eq n).1 hW).2.2 k hk⟩
    have HKM := Lib.hid hkm
    have hwf := (wf_eq n).1 hW
    have hks := wgtKs_le n.kids
    have hkw := hwf.2.2
    have hal0 := hwf.1
    have hkl0 := hwf.2.1
    obtain ⟨pa, ca, pk, ck, rfl, hA, hK⟩ := (node_is w n v).1 hn
    have hkl : (n.kids.length : Int) ≤ 140737488351232 := by omega
    have hal : (n.al.length : Int) ≤ 140737488351232 := by omega
    have h1 := mn_le n.sp
    have h2 := mn_le n.nm
    have h3 := mn_le n.tx
    have m1 : min (n.sp.size : Int) 9000 = (mn n.sp : Int) := by unfold mn; omega
    have m2 : min (n.nm.size : Int) 9000 = (mn n.nm : Int) := by unfold mn; omega
    have m3 : min (n.tx.size : Int) 9000 = (mn n.tx : Int) := by unfold mn; omega
    clear hn hkm hf hwf hW
    generalize mn n.sp = y1 at *
    generalize mn n.nm = y2 at *
    generalize mn n.tx = y3 at *
    generalize n.al = al at *
    generalize n.kids = kids at *
    have f14 : (w.alloc (.cells #[.int .i64 n.kind, .string n.sp, .string n.nm, .slice pa al.length ca, .slice pk kids.length ck, .string n.tx, .int .i64 n.at'] 29)).cell? ⟨w.heap.size, 4, none⟩ = some (.slice pk kids.length ck) := by simp
    have hbw0 : Below w.heap.size w (w.alloc (.cells #[.int .i64 n.kind, .string n.sp, .string n.nm, .slice pa al.length ca, .slice pk kids.length ck, .string n.tx, .int .i64 n.at'] 29)) := (Below.refl _ _).alloc (Nat.le_refl _) _
    have hz0 : (w.alloc (.cells #[.int .i64 n.kind, .string n.sp, .string n.nm, .slice pa al.length ca, .slice pk kids.length ck, .string n.tx, .int .i64 n.at'] 29)).heap.size = w.heap.size + 1 := by simp
    have w1 : IntKind.i64.wrap (1 + (y1 : Int)) = 1 + y1 := wrap_up (by omega) (by omega)
    have w2 : IntKind.i64.wrap (1 + (y1 : Int) + y2) = 1 + y1 + y2 := wrap_up (by omega) (by omega)
    have w3 : IntKind.i64.wrap (1 + (y1 : Int) + y2 + y3) = 1 + y1 + y2 + y3 := wrap_up (by omega) (by omega)
    have w4 : IntKind.i64.wrap ((T : Int) + (1 + (y1 : Int) + y2 + y3)) = (T : Int) + (1 + (y1 : Int) + y2 + y3) := wrap_up (by omega) (by omega)
    have HMX := Lib.hid hmx
    have HKS := Lib.hid hks
    clear hmx hks
    go_enter Tryd.func38, Tryd.ntmps38
    go_wp2
    generalize (w.alloc (.cells #[.int .i64 n.kind, .string n.sp, .string n.nm, .slice pa al.length ca, .slice pk kids.length ck, .string n.tx, .int .i64 n.at'] 29)) = W0 at *
    have hT0 : T + (1 + y1 + y2 + y3) ≤ 36001 := by omega
    have HAL := Lib.hid (wgtAs_le al (T + (1 + y1 + y2 + y3)))
    have hst : (T : Int) + (1 + (y1 : Int) + y2 + y3) = ((T + (1 + y1 + y2 + y3) : Nat) : Int) := by omega
    have HST := Lib.hid hst
    generalize hTT : T + (1 + y1 + y2 + y3) = T1 at *
    clear hst hTT w1 w2 w3 w4 m1 m2 m3 h1 h2 h3
    go_loopw [1, 29] (fun b q wr => ∃ (i S : Nat), i ≤ al.length ∧ q = .int .i64 i ∧ b = .int .i64 S ∧ wgtAs al T1 = wgtAs (al.drop i) S ∧ Below (w.heap.size + 1) W0 wr) (fun _ q _ => al.length - (intOf q).toNat)
    case atStart => exact ⟨0, T1, Nat.zero_le _, rfl, by rw [HST.out], rfl, Below.refl _ _⟩
    case round =>
      obtain ⟨i, S, hi, rfl, rfl, hrel, hbel⟩ := hrel
      obtain ⟨wo, rfl⟩ : ∃ wo, wo = wr := ⟨_, rfl⟩
      have hzo : w.heap.size + 1 ≤ wo.heap.size := by have := hbel.size; omega
      have hbo : Below w.heap.size w wo := hbw0.trans (hbel.mono (by omega))
      have hSb : S ≤ 36001 + 27001 * al.length := by
        have := HAL.out
        have h4 := (wgtAs_le (al.drop i) S).1
        omega
      by_cases hlt : i < al.length
      case pos =>
        have hiz : (i : Int) < (al.length : Int) := by omega
        obtain ⟨a, rfl, g0, g1, g2, g3⟩ := hA.below hbo i hlt
        rw [wgtAs_drop al i hlt] at hrel
        obtain ⟨x, hx⟩ : ∃ x, al[i] = x := ⟨_, rfl⟩
        rw [hx] at g0 g1 g2 g3 hrel
        obtain ⟨xs, xn, xv, xa⟩ := x
        simp only at g0 g1 g2 g3 hrel
        obtain ⟨cc, hcc⟩ : ∃ c, a.add (i * 4) = c := ⟨_, rfl⟩
        rw [hcc] at g0 g1 g2 g3
        simp only [Addr.add, Nat.reduceEqDiff, ↓reduceIte] at g1 g2 g3
        have h1 := mn_le xs
        have h2 := mn_le xn
        have h3 := mn_le xv
        have m1 : min (xs.size : Int) 9000 = (mn xs : Int) := by unfold mn; omega
        have m2 : min (xn.size : Int) 9000 = (mn xn : Int) := by unfold mn; omega
        have m3 : min (xv.size : Int) 9000 = (mn xv : Int) := by unfold mn; omega
        generalize mn xs = y1 at *
        generalize mn xn = y2 at *
        generalize mn xv = y3 at *
        have w1 : IntKind.i64.wrap (1 + (y1 : Int)) = 1 + y1 := wrap_up (by omega) (by omega)
        have w2 : IntKind.i64.wrap (1 + (y1 : Int) + y2) = 1 + y1 + y2 := wrap_up (by omega) (by omega)
        have w3 : IntKind.i64.wrap (1 + (y1 : Int) + y2 + y3) = 1 + y1 + y2 + y3 := wrap_up (by omega) (by omega)
        have w4 : IntKind.i64.wrap ((S : Int) + (1 + (y1 : Int) + y2 + y3)) = (S : Int) + (1 + (y1 : Int) + y2 + y3) := wrap_up (by omega) (by omega)
        have hb2 : ∀ o : Obj, Below (w.heap.size + 1) W0 (wo.alloc o) := fun o => hbel.alloc hzo _
        have HN := Lib.hid hrel
        have HS2 := Lib.hid (show (S : Int) + (1 + (y1 : Int) + y2 + y3) = ((S + (1 + y1 + y2 + y3) : Nat) : Int) by omega)
        clear hrel hA hK f14
        go_wp2
        go_roundw
        case rel => exact ⟨i + 1, S + (1 + y1 + y2 + y3), by omega, by go_num, by rw [HS2.out], HN.out, hb2 _⟩
        case measure => simp [intOf]; omega
      case neg =>
        obtain rfl : i = al.length := by omega
        have HB := Lib.hid (show wgtAs al T1 = S by rw [hrel, List.drop_eq_nil_of_le (Nat.le_refl _)]; rfl)
        have g14 := (hbel.cell (p := ⟨w.heap.size, 4, none⟩) (by show w.heap.size < _; omega)).trans f14
        have hiz : ¬ (al.length : Int) < (al.length : Int) := by omega
        have hSm : S ≤ mxW := by
          have : 27001 * al.length ≤ 27001 * 140737488351232 := Nat.mul_le_mul_left _ hal0
          unfold mxW
          omega
        have HSM := Lib.hid hSm
        clear hrel hA hSb hSm
        go_wp2
        go_loopw [1, 54] (fun b q wr => ∃ (j R : Nat), j ≤ kids.length ∧ q = .int .i64 j ∧ b = .int .i64 R ∧ R ≤ mxW ∧ wgtKs kids S = wgtKs (kids.drop j) R ∧ Below (w.heap.size + 1) W0 wr) (fun _ q _ => kids.length - (intOf q).toNat)
        case atStart => exact ⟨0, S, Nat.zero_le _, rfl, rfl, HSM.out, rfl, hbel⟩
        case round =>
          clear g14 hbel hbo hzo f14
          obtain ⟨j, R, hj, rfl, rfl, hRm, hrl, hbl⟩ := hrel
          obtain ⟨wi, rfl⟩ : ∃ wi, wi = wr := ⟨_, rfl⟩
          have hzi : w.heap.size + 1 ≤ wi.heap.size := by have := hbl.size; omega
          have hbi : Below w.heap.size w wi := hbw0.trans (hbl.mono (by omega))
          have HRM := Lib.hid hRm
          clear hRm
          by_cases hjl : j < kids.length
          case pos =>
            have hjz : (j : Int) < (kids.length : Int) := by omega
            obtain ⟨a, v0, v1, v2, v3, v4, v5, v6, rfl, ⟨b0, b1, b2, b3, b4, b5, b6⟩, hk⟩ := KidsAt.get kids 0 (hK.below hbi) j hjl
            rw [Nat.zero_add] at b0 b1 b2 b3 b4 b5 b6
            rw [wgtKs_drop kids j hjl] at hrl
            have hmem : kids[j] ∈ kids := List.getElem_mem _
            obtain ⟨K, hKj⟩ : ∃ K, kids[j] = K := ⟨_, rfl⟩
            rw [hKj] at hk hmem hrl
            obtain ⟨ra, rc, rk, rl, hv, -, -⟩ := (node_is wi K _).1 hk
            simp only [Value.agg.injEq, Array.mk.injEq, List.cons.injEq, and_true] at hv
            obtain ⟨rfl, rfl, rfl, rfl, rfl, rfl, rfl⟩ := hv
            have hKW := (HKM.out _ hmem).2
            have c1 : ∀ o, R ≤ 9000 → _ := fun (o : Obj) hR => law_weight f K _ R (wi.alloc o) (HKM.out _ hmem).1 hKW hR (NodeIs.below ((Below.refl _ _).alloc (Nat.le_refl _) o) _ _ hk)
            have HKW := Lib.hid (fun hR => wgt_le K R hKW hR)
            clear hKj hKW
            generalize K.wgt R = zb at *
            generalize K.kind = y0 at *
            generalize K.sp = y1 at *
            generalize K.nm = y2 at *
            generalize K.al.length = y3 at *
            generalize K.kids.length = y4 at *
            generalize K.tx = y5 at *
            generalize K.at' = y6 at *
            obtain ⟨cc, hcc⟩ : ∃ c, a.add (j * 7) = c := ⟨_, rfl⟩
            rw [hcc] at b0 b1 b2 b3 b4 b5 b6
            simp only [Addr.add, Nat.reduceEqDiff, ↓reduceIte] at b1 b2 b3 b4 b5 b6
            have hb2 : ∀ o : Obj, Below (w.heap.size + 1) W0 (wi.alloc o) := fun o => hbl.alloc hzi _
            by_cases hR9 : 9000 < R
            · rw [if_pos hR9] at hrl
              have hR9z : (9000 : Int) < (R : Int) := by omega
              have HN := Lib.hid (show n.wgt T = R by rw [HD.out, HB.out, hrl])
              have hbe : ∀ o : Obj, Below w.heap.size w (wi.alloc o) := fun o => hbi.alloc (by omega) _
              clear hrl hK hk hmem c1 HKM
              go_wp2
              go_ret
              exact ⟨trI (by rw [HN.out]), hbe _⟩
            · rw [if_neg hR9] at hrl
              have hR9z : ¬ (9000 : Int) < (R : Int) := by omega
              have HN := Lib.hid hrl
              have hzm := HKW.out (by omega)
              have HZM := Lib.hid hzm
              clear hrl hK hk hmem HKM HKW hzm
              go_wp2_with fail
              refine (c1 _ (by omega)).mono ?_
              rintro e w5 ⟨rfl, b5⟩
              have hb5 : Below (w.heap.size + 1) W0 w5 := (hb2 _).trans (b5.mono (by have := ((Below.refl _ wi).alloc (Nat.le_refl _) (.cells #[.int .i64 y0, .string y1, .string y2, .slice ra y3 rc, .slice rk y4 rl, .string y5, .int .i64 y6] 29)).size; omega))
              clear c1 b5
              go_wp2
              go_roundw
              case rel => exact ⟨j + 1, zb, by omega, by go_num, rfl, HZM.out, HN.out, hb5⟩
              case measure => simp [intOf]; omega
          case neg =>
            obtain rfl : j = kids.length := by omega
            have HX := Lib.hid (show n.wgt T = R by rw [HD.out, HB.out, hrl, List.drop_eq_nil_of_le (Nat.le_refl _)]; rfl)
            have hjz : ¬ (kids.length : Int) < (kids.length : Int) := by omega
            clear hrl hK
            go_wp2
            go_ret
            exact ⟨trI (by rw [HX.out]), hbi⟩
set_option maxRecDepth 100000 in
set_option maxHeartbeats 4000000 in
theorem law_TooLarge (n : NodeD) (v : Value) (w : World) (hW : n.WF) (hn : NodeIs w n v) : Calls Tryd.prog 17 #[v] w fun e w' => e = .returned (.int .i64 (oneIf (decide (5000 < n.wgt 0)))) ∧ Below w.heap.size w w' := by
  have c1 : ∀ o, _ := fun o : Obj => law_weight n.cnt n v 0 (w.alloc o) (Nat.le_refl _) hW (by decide) (NodeIs.below ((Below.refl _ _).alloc (Nat.le_refl _) o) _ _ hn)
  obtain ⟨pa, ca, pk, ck, rfl, -, -⟩ := (node_is w n v).1 hn
  have hbe : ∀ o : Obj, Below w.heap.size w (w.alloc o) := fun o => (Below.refl _ _).alloc (Nat.le_refl _) _
  rw [show ((0 : Nat) : Int) = 0 from rfl] at c1
  clear hn
  generalize n.wgt 0 = T at *
  by_cases hT : 5000 < T
  · have hTz : (5000 : Int) < (T : Int) := by omega
    rw [decide_eq_true hT]
    go_enter Tryd.func17, Tryd.ntmps17
    go_wp2_with fail
    refine (c1 _).mono ?_
    rintro e w5 ⟨rfl, b5⟩
    have hb5 := (hbe _).trans (b5.mono (by simp))
    go_wp2
    go_ret
    exact ⟨rfl, hb5⟩
  · have hTz : ¬ (5000 : Int) < (T : Int) := by omega
    rw [decide_eq_false hT]
    go_enter Tryd.func17, Tryd.ntmps17
    go_wp2_with fail
    refine (c1 _).mono ?_
    rintro e w5 ⟨rfl, b5⟩
    have hb5 := (hbe _).trans (b5.mono (by simp))
    go_wp2
    go_ret
    exact ⟨rfl, hb5⟩
mutual
def NodeD.mass : NodeD → Nat
  | .mk _ sp nm al kids tx _ => 1 + sp.size + nm.size + tx.size + (al.map fun x => 1 + x.sp.size + x.nm.size + x.va.size).sum + masses kids
def masses : List NodeD → Nat
  | [] => 0
  | k :: r => k.mass + masses r
end
theorem wgtAs_mass : ∀ (l : List AttrD) (T : Nat), wgtAs l T ≤ 9000 → wgtAs l T = T + (l.map fun x => 1 + x.sp.size + x.nm.size + x.va.size).sum
  | [], T, _ => rfl
  | x :: r, T, h => by
    rw [wgtAs] at h ⊢
    have h0 := wgtAs_le r (T + (1 + mn x.sp + mn x.nm + mn x.va))
    have := wgtAs_mass r _ h
    rw [this, List.map_cons, List.sum_cons]
    unfold mn at *
    omega
mutual
theorem wgt_ge : ∀ (n : NodeD) (T : Nat), T ≤ n.wgt T
  | .mk _ sp nm al kids tx _, T => by
    rw [NodeD.wgt]
    have h0 := wgtAs_le al (T + (1 + mn sp + mn nm + mn tx))
    have := wgts_ge kids (wgtAs al (T + (1 + mn sp + mn nm + mn tx)))
    omega
theorem wgts_ge : ∀ (l : List NodeD) (T : Nat), T ≤ wgtKs l T
  | [], T => Nat.le_refl _
  | k :: r, T => by
    rw [wgtKs]
    split
    · exact Nat.le_refl _
    · exact Nat.le_trans (wgt_ge k T) (wgts_ge r _)
end
mutual
theorem wgt_mass : ∀ (n : NodeD) (T : Nat), n.wgt T ≤ 8999 → n.wgt T = T + n.mass
  | .mk _ sp nm al kids tx _, T, h => by
    rw [NodeD.wgt] at h ⊢
    have h0 := wgtAs_le al (T + (1 + mn sp + mn nm + mn tx))
    have h1 := wgts_ge kids (wgtAs al (T + (1 + mn sp + mn nm + mn tx)))
    rw [wgts_mass kids _ h, NodeD.mass, wgtAs_mass al _ (by omega)]
    unfold mn at *
    omega
theorem wgts_mass : ∀ (l : List NodeD) (T : Nat), wgtKs l T ≤ 8999 → wgtKs l T = T + masses l
  | [], T, _ => rfl
  | k :: r, T, h => by
    rw [wgtKs] at h ⊢
    split
    · rename_i h1
      rw [if_pos h1] at h
      omega
    · rename_i h1
      rw [if_neg h1] at h
      have h2 := wgts_ge r (k.wgt T)
      rw [wgts_mass r _ h, wgt_mass k T (by omega), masses]
      omega
end
theorem sum_len : ∀ l : List AttrD, l.length ≤ (l.map fun x => 1 + x.sp.size + x.nm.size + x.va.size).sum
  | [] => Nat.le_refl _
  | x :: r => by
    rw [List.map_cons, List.sum_cons, List.length_cons]
    have := sum_len r
    omega
mutual
theorem mass_parts : ∀ n : NodeD, n.wt ≤ n.mass ∧ n.tlen ≤ n.mass
  | .mk _ sp nm al kids tx _ => by
    rw [NodeD.wt, NodeD.tlen, NodeD.mass]
    have h1 := masses_parts kids
    have h2 := sum_len al
    omega
theorem masses_parts : ∀ l : List NodeD, wts l ≤ masses l ∧ tlens l ≤ masses l
  | [] => ⟨Nat.le_refl _, Nat.le_refl _⟩
  | k :: r => by
    rw [wts, tlens, masses]
    have h1 := mass_parts k
    have h2 := masses_parts r
    omega
end
theorem not_large {n : NodeD} (h : ¬ 5000 < n.wgt 0) : n.wt ≤ 5000 ∧ n.tlen ≤ 5000 := by
  have h1 := wgt_mass n 0 (by omega)
  have h2 := mass_parts n
  omega
end Go.Proofs.YtoehcholbcchcaaDoor
end
section
namespace Go.Proofs.YtoehcholbcchcaaDoor
open Go.RowKit
theorem tref_element (l : List TokD) (z : Int) (hln : l.length ≤ 10000) (htx : ∀ u ∈ l, u.tx.length ≤ 100050004) : ∀ (N F : Nat), F ≤ N → ElC l z F
  | 0, F, hF => by
    intro d i p A ct a0 w hi hf _ _ _
    omega
  | N + 1, F, hF => by
    match F, hF with
    | 0, _ =>
      intro d i p A ct a0 w hi hf _ _ _
      omega
    | F + 1, hF => exact el_step l z hln htx F (fun G hG => tref_element l z hln htx N G (by omega))
def RootAt (X : List Nat) (w : World) (R B P : Nat) : Option NodeD → Prop
  | none => Blk w B nodeZs 29
  | some n => ∃ pa ca pk ck, Blk w B #[.int .i64 n.kind, .string n.sp, .string n.nm, .slice pa n.al.length ca, .slice pk n.kids.length ck, .string n.tx, .int .i64 n.at'] 29 ∧ NodeIs (holes w ([R, B, P] ++ X)) n (.agg #[.int .i64 n.kind, .string n.sp, .string n.nm, .slice pa n.al.length ca, .slice pk n.kids.length ck, .string n.tx, .int .i64 n.at'])
theorem RootAt.keep {X : List Nat} {w w' : World} {R B P : Nat} {r : Option NodeD} (h : RootAt X w R B P r) (hk : Keep P w w') (hB : B ≠ P) : RootAt X w' R B P r := by
  cases r with
  | none => exact Blk.keep (h : Blk w B nodeZs _) hk hB
  | some n =>
    obtain ⟨pa, ca, pk, ck, hb, hn⟩ := h
    exact ⟨pa, ca, pk, ck, hb.keep hk hB, hn.go (Goes.keep hk (by simp))⟩
structure TopR (X : List Nat) (w0 : World) (A : Option Addr) (ct : Nat) (l : List TokD) (R B P : Nat) (i : Nat) (r : Option NodeD) (w : World) : Prop where
  lows : w0.heap.size ≤ R ∧ R < B ∧ P < B ∧ R ≠ P ∧ w0.heap.size ≤ P
  par : Par w P A l.length ct (i : Int) 0 0
  res : Blk w R nodeZs 29
  root : RootAt X w R B P r
  toks : TokensAt (holes w ([R, B, P] ++ X)) A l
  blt : B < w.heap.size
  bel : Below w0.heap.size w0 w
theorem TopR.keeps {X : List Nat} {w0 w w' : World} {A : Option Addr} {ct : Nat} {l : List TokD} {R B P i j : Nat} {r : Option NodeD} (h : TopR X w0 A ct l R B P i r w) (hk : Keep P w w') (hP : Par w' P A l.length ct (j : Int) 0 0) : TopR X w0 A ct l R B P j r w' := by
  obtain ⟨h1, h2, h3, h4, h5⟩ := h.lows
  exact ⟨h.lows, hP, h.res.keep hk h4, h.root.keep hk (by omega), h.toks.go (Goes.keep hk (by simp)), by have := hk.size; have := h.blt; omega, hk.below h.bel h5 h.bel.size⟩
theorem TopR.below {X : List Nat} {w0 w w' : World} {A : Option Addr} {ct : Nat} {l : List TokD} {R B P i : Nat} {r : Option NodeD} (h : TopR X w0 A ct l R B P i r w) (hb : Below w.heap.size w w') : TopR X w0 A ct l R B P i r w' := h.keeps (Keep.of hb) (h.par.keep hb)
theorem TopR.found {X : List Nat} {w0 w w' : World} {A : Option Addr} {ct : Nat} {l : List TokD} {R B P i j : Nat} {n : NodeD} {pa : Option Addr} {ca : Nat} {pk : Option Addr} {ck : Nat} (h : TopR X w0 A ct l R B P i none w) (hk : Keep P w w') (hP : Par w' P A l.length ct (j : Int) 0 0)
    (hn : NodeIs (holes w' ([R, B, P] ++ X)) n (.agg #[.int .i64 n.kind, .string n.sp, .string n.nm, .slice pa n.al.length ca, .slice pk n.kids.length ck, .string n.tx, .int .i64 n.at'])) :
    TopR X w0 A ct l R B P j (some n) (((((((w'.setCell ⟨B, 0, none⟩ (.int .i64 n.kind)).setCell ⟨B, 1, none⟩ (.string n.sp)).setCell ⟨B, 2, none⟩ (.string n.nm)).setCell ⟨B, 3, none⟩ (.slice pa n.al.length ca)).setCell ⟨B, 4, none⟩ (.slice pk n.kids.length ck)).setCell ⟨B, 5, none⟩ (.string n.tx)).setCell ⟨B, 6, none⟩ (.int .i64 n.at')) := by
  obtain ⟨h1, h2, h3, h4, h5⟩ := h.lows
  have hB : Blk w' B nodeZs 29 := Blk.keep (h.root : Blk w B nodeZs _) hk (by omega)
  have k7 := sevK2 B w' (.int .i64 n.kind) (.string n.sp) (.string n.nm) (.slice pa n.al.length ca) (.slice pk n.kids.length ck) (.string n.tx) (.int .i64 n.at')
  have hgo : Goes w' ([R, B, P] ++ X) (((((((w'.setCell ⟨B, 0, none⟩ (.int .i64 n.kind)).setCell ⟨B, 1, none⟩ (.string n.sp)).setCell ⟨B, 2, none⟩ (.string n.nm)).setCell ⟨B, 3, none⟩ (.slice pa n.al.length ca)).setCell ⟨B, 4, none⟩ (.slice pk n.kids.length ck)).setCell ⟨B, 5, none⟩ (.string n.tx)).setCell ⟨B, 6, none⟩ (.int .i64 n.at')) ([R, B, P] ++ X) := Goes.keep k7 (by simp)
  have hz := h.blt
  refine ⟨h.lows, par_sev hP (by omega) _ _ _ _ _ _ _, (h.res.keep hk h4).keep k7 (by omega), ?_, (h.toks.go (Goes.keep hk (by simp))).go hgo, ?_, k7.below (hk.below h.bel h5 h.bel.size) (by omega) ?_⟩
  · exact ⟨pa, ca, pk, ck, ((((((hB.set 0 _).set 1 _).set 2 _).set 3 _).set 4 _).set 5 _).set 6 _, hn.go hgo⟩
  · have := hk.size
    have := k7.size
    omega
  · have := hk.size
    have := h.bel.size
    omega
def ParsX (X : List Nat) (w0 : World) (R : NodeD × Int × Int) (e : Ending) (w' : World) : Prop := ∃ v, e = .returned (.tuple #[v, .int .i64 R.2.1, .int .i64 R.2.2]) ∧ NodeIs (holes w' X) R.1 v ∧ Below w0.heap.size w0 w'
theorem pars_zero {X : List Nat} {w w9 : World} {R : Nat} {x : Int × Int} {Q : NodeD × Int × Int} (hq : Q = (zeroN, x)) (hb : Below w.heap.size w w9) (hR : w.heap.size ≤ R) (u0 u1 u2 u3 u4 u5 u6 : Value) : ParsX X w Q (.returned (.tuple #[zeroV, .int .i64 x.1, .int .i64 x.2])) (((((((w9.setCell ⟨R, 0, none⟩ u0).setCell ⟨R, 1, none⟩ u1).setCell ⟨R, 2, none⟩ u2).setCell ⟨R, 3, none⟩ u3).setCell ⟨R, 4, none⟩ u4).setCell ⟨R, 5, none⟩ u5).setCell ⟨R, 6, none⟩ u6) := by
  subst hq
  exact ⟨zeroV, rfl, zero_is _, (sevK2 R w9 u0 u1 u2 u3 u4 u5 u6).below hb hR hb.size⟩
theorem pars_zeroD {X : List Nat} {w w9 : World} {R : Nat} {x : Int × Int} {Q : NodeD × Int × Int} (hq : Q = (zeroN, x)) (hb : Below w.heap.size w w9) (hR : w.heap.size ≤ R) (u0 u1 u2 u3 u4 u5 u6 : Value) : ParsX X w Q (.returned (.tuple #[zeroV, .int .i64 x.1, .int .i64 x.2])) (((((((w9.setCell ⟨R, 0, none⟩ u0).setCell ⟨R, 1, none⟩ u1).setCell ⟨R, 2, none⟩ u2).setCell ⟨R, 3, none⟩ u3).setCell ⟨R, 4, none⟩ u4).setCell ⟨R, 5, none⟩ u5).setCell ⟨R, 6, none⟩ u6).drew := by
  subst hq
  exact ⟨zeroV, rfl, zero_is _, ((sevK2 R w9 u0 u1 u2 u3 u4 u5 u6).below hb hR hb.size).drew⟩
theorem sev_cell {w : World} {R : Nat} {a : Addr} {v : Value} (h : w.cell? a = some v) (hne : a.block ≠ R) (u0 u1 u2 u3 u4 u5 u6 : Value) : (((((((w.setCell ⟨R, 0, none⟩ u0).setCell ⟨R, 1, none⟩ u1).setCell ⟨R, 2, none⟩ u2).setCell ⟨R, 3, none⟩ u3).setCell ⟨R, 4, none⟩ u4).setCell ⟨R, 5, none⟩ u5).setCell ⟨R, 6, none⟩ u6).drew.cell? a = some v :=
  (Keep.cell (Keep.drew (sevK2 R w u0 u1 u2 u3 u4 u5 u6)) (kblock_lt h) hne).trans h
set_option maxRecDepth 100000 in
set_option maxHeartbeats 16000000 in
theorem tref_ParseX (X : List Nat) (s : ByteArray) (w : World) (hs : s.size ≤ 10000) (hX : ∀ b ∈ X, b < w.heap.size) : Calls Tryd.prog 25 #[.string s] w fun e w' => ParsX X w (parseP s) e w' := by
  obtain ⟨W0, hW0⟩ : ∃ W0, W0 = w.alloc (.cells nodeZs 29) := ⟨_, rfl⟩
  have P0 : Blk W0 w.heap.size nodeZs 29 := by rw [hW0]; exact Blk.new w _ _
  have B0 : Below w.heap.size w W0 := by rw [hW0]; exact (Below.refl _ _).alloc (Nat.le_refl _) _
  have cT := tref_Tokens s W0 (by omega)
  have hsm := (toksP_small s).1
  have htx := toksP_tx s
  have htop := parse_top s
  have hbad : (toksP s).2.2 ≠ 0 → parseP s = (zeroN, (toksP s).2.1, (toksP s).2.2) := fun h => if_pos h
  have hM : (s.size + 1) * (s.size + 4) ≤ 10001 * 10004 := Nat.mul_le_mul (by omega) (by omega)
  have hEL := tref_element (toksP s).1 (s.size : Int) (by omega) (fun u hu => by have := (htx u hu).1; omega) (2 * (toksP s).1.length + 1) (2 * (toksP s).1.length + 1) (Nat.le_refl _)
  generalize parseP s = PP at *
  generalize toksP s = TP at *
  obtain ⟨l, x1, x2⟩ := TP
  simp only at hsm htx htop hbad hEL
  have HEL := Lib.hid hEL
  have HTX := Lib.hid htx
  have HP0 := Lib.hid P0
  have HB0 := Lib.hid B0
  have hz0 : W0.heap.size = w.heap.size + 1 := by rw [hW0]; simp
  clear hEL htx P0 B0
  go_enter Tryd.func25, Tryd.ntmps25
  go_upto_region 1 with fail
  simp only [nodeZs] at hW0
  simp only [← hW0]
  clear hW0
  go_wp2_with fail
  refine cT.mono ?_
  rintro e w1 ⟨v, ps, rfl, hps, hrow, b1⟩
  obtain ⟨A, ct, rfl⟩ := own_form hrow.1
  obtain ⟨hlen, hta⟩ := tokens_of_row hrow
  simp only at hps
  rw [hps] at hta
  have hpl : ps.length = l.length := by have h := congrArg List.length hps; rwa [List.length_map] at h
  rw [hpl]
  have hrow2 : TokRow (holes w1 ([w.heap.size] ++ X)) W0.heap.size (.slice A ps.length ct) ps := ⟨row_hole hrow.1 (fun b hb => (List.mem_append.1 hb).elim (fun hb => by rw [List.mem_singleton.1 hb]; omega) (fun hb => by have := hX b hb; omega)), fun p hp => row_hole (hrow.2 p hp) (fun b hb => (List.mem_append.1 hb).elim (fun hb => by rw [List.mem_singleton.1 hb]; omega) (fun hb => by have := hX b hb; omega))⟩
  obtain ⟨-, hta2⟩ := tokens_of_row hrow2
  rw [hps] at hta2
  have R1 := HP0.out.more b1
  have B1 := HB0.out.trans (b1.mono HB0.out.size)
  have hRz := R1.lt
  clear hrow hrow2 hps hlen hpl b1 hta cT HP0 HB0
  by_cases hx2 : x2 = 0
  · subst hx2
    have HTOP := Lib.hid (htop rfl).symm
    obtain ⟨W3, hW3⟩ : ∃ W3, W3 = (w1.alloc (.cells #[.slice A l.length ct, .int .i64 0, .int .i64 0, .int .i64 0] 89)).alloc (.cells nodeZs 29) := ⟨_, rfl⟩
    have bA : Below w1.heap.size w1 (w1.alloc (.cells #[.slice A l.length ct, .int .i64 0, .int .i64 0, .int .i64 0] 89)) := (Below.refl _ _).alloc (Nat.le_refl _) _
    have hzA : (w1.alloc (.cells #[.slice A l.length ct, .int .i64 0, .int .i64 0, .int .i64 0] 89)).heap.size = w1.heap.size + 1 := by simp
    have bB : Below (w1.alloc (.cells #[.slice A l.length ct, .int .i64 0, .int .i64 0, .int .i64 0] 89)).heap.size (w1.alloc (.cells #[.slice A l.length ct, .int .i64 0, .int .i64 0, .int .i64 0] 89)) W3 := by rw [hW3]; exact (Below.refl _ _).alloc (Nat.le_refl _) _
    have b3 : Below w1.heap.size w1 W3 := bA.trans (bB.mono bA.size)
    have hT3 : TopR X w A ct l w.heap.size (w1.heap.size + 1) w1.heap.size 0 none W3 := by
      refine ⟨⟨Nat.le_refl _, by omega, by omega, by omega, by omega⟩, ?_, R1.more b3, ?_, hta2.go (fun b hb hn => ⟨?_, b3.block b hb⟩), ?_, B1.trans (b3.mono B1.size)⟩
      · exact (show Par (w1.alloc (.cells #[.slice A l.length ct, .int .i64 0, .int .i64 0, .int .i64 0] 89)) w1.heap.size A l.length ct 0 0 0 from Blk.new w1 _ _).keep bB
      · have := Blk.new (w1.alloc (.cells #[.slice A l.length ct, .int .i64 0, .int .i64 0, .int .i64 0] 89)) nodeZs 29
        rw [hzA] at this
        rw [hW3]
        exact this
      · simp only [List.mem_append, List.mem_cons, List.not_mem_nil, or_false, not_or] at hn ⊢
        exact ⟨⟨hn.1, by omega, by omega⟩, hn.2⟩
      · rw [hW3]
        simp
    clear htop hbad bA hzA bB b3 R1 B1 hta2
    have hRP : w.heap.size ≠ w1.heap.size := by omega
    have hRB : w.heap.size ≠ w1.heap.size + 1 := by omega
    go_upto_region 6 with fail
    simp only [nodeZs] at hW3
    simp only [← hW3]
    clear hW3
    have HT3 := Lib.hid hT3
    clear hT3
    generalize w1.heap.size = P at hRz hRP hRB HT3 ⊢
    go_wp2
    go_loopw [10] (fun f wr => ∃ (i g : Nat) (r : Option NodeD), f = .bool r.isSome ∧ i ≤ l.length ∧ l.length - i < g ∧ PP = topP l (s.size : Int) g i r ∧ TopR X w A ct l w.heap.size (P + 1) P i r wr) (fun _ wr => l.length - (intOf ((wr.cell? ⟨P, 1, none⟩).getD (.bool false))).toNat)
    case atStart => exact ⟨0, l.length + 1, none, rfl, Nat.zero_le _, by omega, HTOP.out, HT3.out⟩
    case round =>
      clear HT3 HTOP
      obtain ⟨i, g, r, rfl, hi, hg, hrel, hT⟩ := hrel
      obtain ⟨g, rfl⟩ : ∃ g', g = g' + 1 := ⟨g - 1, by omega⟩
      have c1 := hT.par.cells.2.1
      have HT := Lib.hid hT
      have hrel2 := hrel
      unfold topP at hrel2
      have HREL := Lib.hid hrel2
      have M1 := Lib.hid c1
      clear hT hrel hrel2
      by_cases hlt : i < l.length
      · have hiz : (i : Int) < (l.length : Int) := by omega
        obtain ⟨ad, qu, cu, hA, ⟨b0, b1, b2, b3, b4, b5⟩, -⟩ := HT.out.toks i hlt
        subst hA
        replace b0 := (holes_cell b0).1
        replace b1 := (holes_cell b1).1
        replace b2 := (holes_cell b2).1
        replace b3 := (holes_cell b3).1
        replace b4 := (holes_cell b4).1
        replace b5 := (holes_cell b5).1
        have hrel := HREL.out
        rw [List.getElem?_eq_getElem hlt] at hrel
        have htt := HTX.out l[i] (List.getElem_mem _)
        obtain ⟨t, ht⟩ : ∃ t, l[i] = t := ⟨_, rfl⟩
        rw [ht] at b0 b1 b2 b3 b4 b5 hrel htt
        simp only at hrel
        have HRL := Lib.hid hrel
        have HTT := Lib.hid htt
        obtain ⟨dd, hdd⟩ : ∃ dd, ad.add (i * 6) = dd := ⟨_, rfl⟩
        rw [hdd] at b0 b1 b2 b3 b4 b5
        simp only [Addr.add, Nat.reduceEqDiff, ↓reduceIte] at b1 b2 b3 b4 b5
        have hi0 : (0 : Int) ≤ (i : Int) := by omega
        obtain ⟨W4, hW4⟩ : ∃ W4, W4 = wr.alloc (.cells #[.int .i64 t.kind, .string (ofBytes t.nm), .slice qu t.al.length cu, .bool t.em, .string (ofBytes t.tx), .int .i64 t.at'] 91) := ⟨_, rfl⟩
        have hT4 := HT.out.below (w' := W4) (by rw [hW4]; exact (Below.refl _ _).alloc (Nat.le_refl _) _)
        have hU : Blk W4 wr.heap.size #[.int .i64 t.kind, .string (ofBytes t.nm), .slice qu t.al.length cu, .bool t.em, .string (ofBytes t.tx), .int .i64 t.at'] 91 := by rw [hW4]; exact Blk.new wr _ _
        have u0 : W4.cell? ⟨wr.heap.size, 0, none⟩ = some (.int .i64 t.kind) := hU.cell 0
        have u4 : W4.cell? ⟨wr.heap.size, 4, none⟩ = some (.string (ofBytes t.tx)) := hU.cell 4
        have u5 : W4.cell? ⟨wr.heap.size, 5, none⟩ = some (.int .i64 t.at') := hU.cell 5
        have HT4 := Lib.hid hT4
        clear hrel HREL htt hT4 hU
        go_upto_region 13 with fail
        simp only [← hW4]
        clear hW4 b0 b1 b2 b3 b4 b5 c1 hdd
        have hRU : w.heap.size ≠ wr.heap.size := Nat.ne_of_lt HT.out.res.lt
        have hUR : wr.heap.size ≠ w.heap.size := hRU.symm
        generalize wr.heap.size = U at u0 u4 u5 hRU hUR ⊢
        have p1 := HT4.out.par.cells.2.1
        have q1 := HT4.out.par.frz 1
        have hw1 : IntKind.i64.wrap ((i : Int) + 1) = (i : Int) + 1 := wrap_small _ (by omega) (by omega)
        by_cases k1 : t.kind = 1
        · rw [k1] at u0
          clear u4
          cases r with
          | some n =>
            have HPE := Lib.hid (HRL.out.trans (if_pos ⟨k1, rfl⟩))
            clear HRL k1 p1 q1
            obtain ⟨⟨r0, r1, r2, r3, r4, r5, r6⟩, g0, g1, g2, g3, g4, g5, g6⟩ := HT4.out.res.seven
            generalize hq : w.heap.size = hs' at r0 r1 r2 r3 r4 r5 r6 g0 g1 g2 g3 g4 g5 g6 hRP hRB hRU hUR ⊢
            have HQ := Lib.hid hq
            clear hq
            go_wp2
            have hS0 : W4.drew.cell? ⟨U, 5, none⟩ = some (.int .i64 t.at') := u5
            have hSs := fun y0 y1 y2 y3 y4 y5 y6 => sev_cell (R := hs') u5 hUR y0 y1 y2 y3 y4 y5 y6
            go_region_held3 (fun w' => w'.cell? ⟨U, 5, none⟩ = some (.int .i64 t.at')) (first | with_reducible exact hS0 | with_reducible exact hSs _ _ _ _ _ _ _) (fail)
            all_goals
              go_wp2
              exact bodyPost_ret (v := .tuple #[zeroV, .int .i64 t.at', .int .i64 17]) (by simp [results, Tryd.results25, go_sem, cell_set_same, r0, r1, r2, r3, r4, r5, r6, zeroV]) rfl (pars_zeroD (x := (t.at', 17)) HPE.out HT4.out.bel (by have := HQ.out; omega) _ _ _ _ _ _ _)
          | none =>
            have HRN := Lib.hid (HRL.out.trans ((if_neg (fun q => absurd q.2 (by decide))).trans ((if_neg (by rw [k1]; decide)).trans (if_neg (by rw [k1]; decide)))))
            clear HRL k1 p1 q1 u5
            have hT4t := HT4.out.toks
            have hlow := HT4.out.lows
            have hblt := HT4.out.blt
            have hLO : LeftOut W4 P (some ad) l ([w.heap.size, P + 1, P] ++ X) := ⟨fun b hb => (List.mem_append.1 hb).elim (fun hb => by simp at hb; omega) (fun hb => by have := hX b hb; have := HT4.out.bel.size; omega), by simp, hT4t⟩
            have hTP : TokensAt (holes W4 [P]) (some ad) l := hT4t.go (Goes.less (fun k hk => by rw [List.mem_singleton.1 hk]; simp))
            have cE := HEL.out 1 i P (some ad) ct 0 W4 hlt (by omega) (by decide) HT4.out.par hTP
            rw [show ((1 : Nat) : Int) = 1 from rfl] at cE
            have HLO := Lib.hid hLO
            have HBD := Lib.hid ((el_bound l (s.size : Int) (2 * l.length + 1)).1 1 i hlt (by omega))
            clear hT4t hlow hblt hLO hTP
            generalize elP l (s.size : Int) (2 * l.length + 1) 1 i = r1 at *
            obtain ⟨n1, j2, a2, e2⟩ := r1
            simp only at HRN HBD
            go_wp2_with fail
            refine cE.mono ?_
            rintro e w2 ⟨v, rfl, ⟨j1, a1, hP2, h0, h1⟩, kk2, hn2⟩
            simp only at hP2 h0 h1 hn2
            obtain ⟨xa, xc, xk, xd, rfl, -, -⟩ := (node_is _ n1 _).1 (hn2 _ HLO.out)
            have HN2 := Lib.hid (hn2 _ HLO.out)
            have hlow := HT4.out.lows
            have hRoot : Blk w2 (P + 1) nodeZs 29 := Blk.keep (HT4.out.root : Blk W4 (P + 1) nodeZs _) kk2 (by omega)
            obtain ⟨⟨z0, z1, z2, z3, z4, z5, z6⟩, f0, f1, f2, f3, f4, f5, f6⟩ := hRoot.seven
            have y3 := hP2.cells.2.2.2
            have hPB : P ≠ P + 1 := by omega
            have hBP : P + 1 ≠ P := by omega
            have HP2 := Lib.hid hP2
            have HK2 := Lib.hid kk2
            have HRT := Lib.hid hRoot
            clear hn2 cE hP2 kk2 hlow hRoot
            by_cases he2 : e2 = 0
            · subst he2
              obtain ⟨rfl, rfl⟩ := h0 rfl
              have HRM := Lib.hid (HRN.out.trans (if_neg (fun q => q rfl)))
              obtain ⟨hj2, hj2l, -⟩ := HBD.out rfl
              clear HRN HBD h0 h1
              go_wp2
              go_roundw
              case rel =>
                refine ⟨j2, g, some n1, rfl, hj2l, by omega, HRM.out, ?_⟩
                exact TopR.found HT4.out HK2.out HP2.out HN2.out
              case measure =>
                rw [M1.out, (TopR.found HT4.out HK2.out HP2.out HN2.out).par.cells.2.1]
                simp [intOf]
                omega
            · have heb : (e2 != 0) = true := by simpa using he2
              have HPE := Lib.hid (HRN.out.trans (if_pos he2))
              have hae := h1 he2
              subst hae
              obtain ⟨W7, hW7⟩ : ∃ W7, W7 = ((((((w2.setCell ⟨P + 1, 0, none⟩ (.int .i64 n1.kind)).setCell ⟨P + 1, 1, none⟩ (.string n1.sp)).setCell ⟨P + 1, 2, none⟩ (.string n1.nm)).setCell ⟨P + 1, 3, none⟩ (.slice xa n1.al.length xc)).setCell ⟨P + 1, 4, none⟩ (.slice xk n1.kids.length xd)).setCell ⟨P + 1, 5, none⟩ (.string n1.tx)).setCell ⟨P + 1, 6, none⟩ (.int .i64 n1.at') := ⟨_, rfl⟩
              have k7 : Keep (P + 1) w2 W7 := by rw [hW7]; exact sevK2 _ _ _ _ _ _ _ _ _
              have hP7 : Par W7 P (some ad) l.length ct j1 a1 e2 := by rw [hW7]; exact par_sev HP2.out hBP _ _ _ _ _ _ _
              have hR7 : Blk W7 w.heap.size nodeZs 29 := Blk.keep (Blk.keep HT4.out.res HK2.out hRP) k7 hRB
              have HB7 := Lib.hid (k7.below (HK2.out.below HT4.out.bel HT4.out.lows.2.2.2.2 HT4.out.bel.size) (by have := HT4.out.lows; omega) (by have := HK2.out.size; have := HT4.out.bel.size; omega))
              have y2 := hP7.cells.2.2.1
              have y3' := hP7.cells.2.2.2
              clear HRN HBD h0 h1 HRT k7 hP7
              go_upto_region 10 with fail
              simp only [← hW7]
              clear hW7 f0 f1 f2 f3 f4 f5 f6 z0 z1 z2 z3 z4 z5 z6 y3
              obtain ⟨⟨r0, r1, r2, r3, r4, r5, r6⟩, g0, g1, g2, g3, g4, g5, g6⟩ := hR7.seven
              have hPR : P ≠ w.heap.size := hRP.symm
              clear hR7
              generalize hq : w.heap.size = hs' at r0 r1 r2 r3 r4 r5 r6 g0 g1 g2 g3 g4 g5 g6 hRP hPR hRB hRU hUR ⊢
              have HQ := Lib.hid hq
              clear hq
              have hS0 : W7.drew.cell? ⟨P, 2, none⟩ = some (.int .i64 a1) ∧ W7.drew.cell? ⟨P, 3, none⟩ = some (.int .i64 e2) := ⟨y2, y3'⟩
              have hSs := fun x0 x1 x2 x3 x4 x5 x6 => And.intro (sev_cell (R := hs') y2 hPR x0 x1 x2 x3 x4 x5 x6) (sev_cell (R := hs') y3' hPR x0 x1 x2 x3 x4 x5 x6)
              go_wp2
              go_region_held3 (fun w' => w'.cell? ⟨P, 2, none⟩ = some (.int .i64 a1) ∧ w'.cell? ⟨P, 3, none⟩ = some (.int .i64 e2)) (first | with_reducible exact hS0 | with_reducible exact hSs _ _ _ _ _ _ _) (fail)
              all_goals
                go_wp2
                exact bodyPost_ret (v := .tuple #[zeroV, .int .i64 a1, .int .i64 e2]) (by simp [results, Tryd.results25, go_sem, cell_set_same, r0, r1, r2, r3, r4, r5, r6, zeroV]) rfl (pars_zeroD (x := (a1, e2)) HPE.out HB7.out (by have := HQ.out; omega) _ _ _ _ _ _ _)
        · have k1b : (t.kind == 1) = false := by simpa using k1
          by_cases k2 : t.kind = 2
          · rw [k2] at u0
            have HPE := Lib.hid (HRL.out.trans ((if_neg (fun q => k1 q.1)).trans (if_pos k2)))
            clear HRL k1 k1b k2 p1 q1 u4
            obtain ⟨⟨r0, r1, r2, r3, r4, r5, r6⟩, g0, g1, g2, g3, g4, g5, g6⟩ := HT4.out.res.seven
            generalize hq : w.heap.size = hs' at r0 r1 r2 r3 r4 r5 r6 g0 g1 g2 g3 g4 g5 g6 hRP hRB hRU hUR ⊢
            have HQ := Lib.hid hq
            clear hq
            go_wp2
            have hS0 : W4.drew.cell? ⟨U, 5, none⟩ = some (.int .i64 t.at') := u5
            have hSs := fun y0 y1 y2 y3 y4 y5 y6 => sev_cell (R := hs') u5 hUR y0 y1 y2 y3 y4 y5 y6
            go_region_held3 (fun w' => w'.cell? ⟨U, 5, none⟩ = some (.int .i64 t.at')) (first | with_reducible exact hS0 | with_reducible exact hSs _ _ _ _ _ _ _) (fail)
            all_goals
              go_wp2
              exact bodyPost_ret (v := .tuple #[zeroV, .int .i64 t.at', .int .i64 14]) (by simp [results, Tryd.results25, go_sem, cell_set_same, r0, r1, r2, r3, r4, r5, r6, zeroV]) rfl (pars_zeroD (x := (t.at', 14)) HPE.out HT4.out.bel (by have := HQ.out; omega) _ _ _ _ _ _ _)
          · have k3 : t.kind = 3 := by
              rcases HTT.out.2.1 with h | h | h
              · exact absurd h k1
              · exact absurd h k2
              · exact h
            rw [k3] at u0
            have HRM := Lib.hid (HRL.out.trans ((if_neg (fun q => k1 q.1)).trans ((if_neg k2).trans (if_pos k3))))
            have hts : (ofBytes t.tx).size ≤ 1000000000 := by
              rw [ofBytes_size]
              have := HTT.out.1
              omega
            have cB : ∀ wx, _ := fun wx => tref_Blank (ofBytes t.tx) wx hts
            rw [ofBytes_list] at cB
            clear HRL k1 k1b k2 k3 hts
            rcases hb : blankB t.tx with _ | _
            · rw [hb] at cB
              have HPE := Lib.hid (HRM.out.trans (if_neg (by rw [hb]; decide)))
              clear HRM hb p1 q1
              obtain ⟨⟨r0, r1, r2, r3, r4, r5, r6⟩, g0, g1, g2, g3, g4, g5, g6⟩ := HT4.out.res.seven
              generalize hq : w.heap.size = hs' at r0 r1 r2 r3 r4 r5 r6 g0 g1 g2 g3 g4 g5 g6 hRP hRB hRU hUR ⊢
              have HQ := Lib.hid hq
              clear hq
              go_wp2_with fail
              refine (cB _).mono ?_
              rintro e w9 ⟨rfl, rfl⟩
              go_wp2
              have hS0 : W4.drew.cell? ⟨U, 5, none⟩ = some (.int .i64 t.at') := u5
              have hSs := fun y0 y1 y2 y3 y4 y5 y6 => sev_cell (R := hs') u5 hUR y0 y1 y2 y3 y4 y5 y6
              go_region_held3 (fun w' => w'.cell? ⟨U, 5, none⟩ = some (.int .i64 t.at')) (first | with_reducible exact hS0 | with_reducible exact hSs _ _ _ _ _ _ _) (fail)
              all_goals
                go_wp2
                exact bodyPost_ret (v := .tuple #[zeroV, .int .i64 t.at', .int .i64 7]) (by simp [results, Tryd.results25, go_sem, cell_set_same, r0, r1, r2, r3, r4, r5, r6, zeroV]) rfl (pars_zeroD (x := (t.at', 7)) HPE.out HT4.out.bel (by have := HQ.out; omega) _ _ _ _ _ _ _)
            · rw [hb] at cB
              have HPE := Lib.hid (HRM.out.trans (if_pos (by rw [hb])))
              clear HRM hb
              go_wp2_with fail
              refine (cB _).mono ?_
              rintro e w9 ⟨rfl, rfl⟩
              have HT5 := Lib.hid (HT4.out.keeps (j := i + 1) ((Keep.refl P W4).set 1 (.int .i64 ((i : Int) + 1))) (by rw [show ((i + 1 : Nat) : Int) = (i : Int) + 1 by omega]; exact HT4.out.par.set1 _))
              have HN5 := Lib.hid HT5.out.par.cells.2.1
              go_wp2
              go_roundw
              case rel => exact ⟨i + 1, g, r, rfl, hlt, by omega, HPE.out, HT5.out⟩
              case measure => rw [M1.out, HN5.out]; simp [intOf]; omega
      · obtain rfl : i = l.length := by omega
        have hiz : ¬ (l.length : Int) < (l.length : Int) := by omega
        have hrel := HREL.out
        rw [List.getElem?_eq_none (Nat.le_refl _)] at hrel
        simp only at hrel
        have B9 := Lib.hid HT.out.bel
        obtain ⟨⟨r0, r1, r2, r3, r4, r5, r6⟩, g0, g1, g2, g3, g4, g5, g6⟩ := HT.out.res.seven
        cases r with
        | none =>
          have HPE := Lib.hid hrel
          clear hrel HREL
          generalize hq : w.heap.size = hs' at r0 r1 r2 r3 r4 r5 r6 g0 g1 g2 g3 g4 g5 g6 ⊢
          have HQ := Lib.hid hq
          clear hq
          go_wp2
          exact bodyPost_ret (v := .tuple #[zeroV, .int .i64 s.size, .int .i64 8]) (by simp [results, Tryd.results25, go_sem, cell_set_same, r0, r1, r2, r3, r4, r5, r6, zeroV]) rfl (pars_zero (x := ((s.size : Int), 8)) HPE.out B9.out (by have := HQ.out; omega) _ _ _ _ _ _ _)
        | some n =>
          have HPE := Lib.hid hrel
          obtain ⟨pa, ca, pk, ck, hb, hn⟩ := HT.out.root
          have x0 := hb.cell 0
          have x1' := hb.cell 1
          have x2' := hb.cell 2
          have x3 := hb.cell 3
          have x4 := hb.cell 4
          have x5 := hb.cell 5
          have x6 := hb.cell 6
          simp only [List.getElem?_toArray, List.getElem?_cons_succ, List.getElem?_cons_zero] at x0 x1' x2' x3 x4 x5 x6
          have HN := Lib.hid hn
          clear hrel HREL hb hn
          generalize hq : w.heap.size = hs' at r0 r1 r2 r3 r4 r5 r6 g0 g1 g2 g3 g4 g5 g6 hRB ⊢
          have HQ := Lib.hid hq
          clear hq
          go_wp2
          exact bodyPost_ret (v := .tuple #[.agg #[.int .i64 n.kind, .string n.sp, .string n.nm, .slice pa n.al.length ca, .slice pk n.kids.length ck, .string n.tx, .int .i64 n.at'], .int .i64 s.size, .int .i64 0]) (by simp [results, Tryd.results25, go_sem, cell_set_same, r0, r1, r2, r3, r4, r5, r6]) rfl (by rw [HPE.out]; exact ⟨_, rfl, (HN.out.go (Goes.keep (sevK2 hs' _ _ _ _ _ _ _ _) (by rw [← HQ.out]; simp)) : NodeIs (holes _ ([w.heap.size, P + 1, P] ++ X)) _ _).go (Goes.less (fun k hk => List.mem_append_right _ hk)), (sevK2 hs' _ _ _ _ _ _ _ _).below B9.out (by have := HQ.out; omega) B9.out.size⟩)
  · have HB := Lib.hid (hbad hx2)
    have hxb : (x2 != 0) = true := by simpa using hx2
    have B9 := Lib.hid B1
    obtain ⟨⟨r0, r1, r2, r3, r4, r5, r6⟩, g0, g1, g2, g3, g4, g5, g6⟩ := R1.seven
    clear htop hbad R1 B1 hta2
    generalize hq : w.heap.size = hs' at r0 r1 r2 r3 r4 r5 r6 g0 g1 g2 g3 g4 g5 g6 ⊢
    have HQ := Lib.hid hq
    clear hq
    go_wp2
    exact bodyPost_ret (v := .tuple #[zeroV, .int .i64 x1, .int .i64 x2]) (by simp [results, Tryd.results25, go_sem, cell_set_same, r0, r1, r2, r3, r4, r5, r6, zeroV]) rfl (pars_zero (x := (x1, x2)) HB.out B9.out (by have := HQ.out; omega) _ _ _ _ _ _ _)
end Go.Proofs.YtoehcholbcchcaaDoor
end
section
namespace Go.Proofs.YtoehcholbcchcaaDoor
open Go.RowKit
theorem node_form {w : World} {n : NodeD} {v : Value} (h : NodeIs w n v) : ∃ pa ca pk ck, v = .agg #[.int .i64 n.kind, .string n.sp, .string n.nm, .slice pa n.al.length ca, .slice pk n.kids.length ck, .string n.tx, .int .i64 n.at'] := by
  obtain ⟨pa, ca, pk, ck, hv, _, _⟩ := (node_is w n v).1 h
  exact ⟨pa, ca, pk, ck, hv⟩
end Go.Proofs.YtoehcholbcchcaaDoor
end
section
namespace Go.Proofs.YtoehcholbcchcaaDoor
open Go.RowKit
def NBox (x : World) (b : Nat) (n : NodeD) (pa : Option Addr) (ca : Nat) (pk : Option Addr) (ck : Nat) : Prop := x.cell? ⟨b, 0, none⟩ = some (.int .i64 n.kind) ∧ x.cell? ⟨b, 1, none⟩ = some (.string n.sp) ∧ x.cell? ⟨b, 2, none⟩ = some (.string n.nm) ∧ x.cell? ⟨b, 3, none⟩ = some (.slice pa n.al.length ca) ∧ x.cell? ⟨b, 4, none⟩ = some (.slice pk n.kids.length ck) ∧ x.cell? ⟨b, 5, none⟩ = some (.string n.tx) ∧ x.cell? ⟨b, 6, none⟩ = some (.int .i64 n.at')
theorem NBox.below {x y : World} {b : Nat} {n : NodeD} {pa : Option Addr} {ca : Nat} {pk : Option Addr} {ck : Nat} (h : NBox x b n pa ca pk ck) (hb : Below x.heap.size x y) : NBox y b n pa ca pk ck := by
  obtain ⟨h0, h1, h2, h3, h4, h5, h6⟩ := h
  exact ⟨(hb.cell (kblock_lt h0)).trans h0, (hb.cell (kblock_lt h1)).trans h1, (hb.cell (kblock_lt h2)).trans h2, (hb.cell (kblock_lt h3)).trans h3, (hb.cell (kblock_lt h4)).trans h4, (hb.cell (kblock_lt h5)).trans h5, (hb.cell (kblock_lt h6)).trans h6⟩
theorem NBox.of {x : World} {b : Nat} {n : NodeD} {pa : Option Addr} {ca : Nat} {pk : Option Addr} {ck : Nat} {T : TypeId} (h : Blk x b #[.int .i64 n.kind, .string n.sp, .string n.nm, .slice pa n.al.length ca, .slice pk n.kids.length ck, .string n.tx, .int .i64 n.at'] T) : NBox x b n pa ca pk ck :=
  ⟨h.cell 0, h.cell 1, h.cell 2, h.cell 3, h.cell 4, h.cell 5, h.cell 6⟩
end Go.Proofs.YtoehcholbcchcaaDoor
end
section
namespace Go.Proofs.YtoehcholbcchcaaDoor
open Go.RowKit
def vB (n : Nat) : Nat := (n + 1) * (n + 4)
theorem contP_va (l : List UInt8) (i j : Nat) (v : Bool) (hj : j ≤ l.length) : (contP l i j v).1.length ≤ vB l.length := by
  have h := contF_len l j v (j + 1) i []
  unfold contP vB
  refine Nat.le_trans h ?_
  rw [List.length_nil, Nat.zero_add]
  exact Nat.mul_le_mul_right _ (by omega)
theorem attr4_va (s : ByteArray) (i : Nat) (N : List UInt8) (e : Nat) (c : List UInt8 × Int × Int) : (attr4 s i N e c).1.2.length ≤ c.1.length := by
  unfold attr4
  split
  · exact Nat.zero_le _
  · split
    · exact Nat.zero_le _
    · split
      · exact Nat.zero_le _
      · exact Nat.le_refl _
theorem attrP_va (s : ByteArray) (i a : Nat) : (attrP s i a).1.2.length ≤ vB s.data.toList.length := by
  have q : ∀ (m : Nat) (N : List UInt8) (x : UInt8), hasP s.data.toList (m : Int) [x] = true → (attr3 s i N m (quoAt s.data.toList x (m + 1))).1.2.length ≤ vB s.data.toList.length := fun m N x h => by
    have h1 := hasP_len h (by simp)
    have h2 := quoAt_le s.data.toList x (m + 1) (by simpa using h1)
    unfold attr3
    exact Nat.le_trans (attr4_va _ _ _ _ _) (contP_va _ _ _ _ h2.2)
  unfold attrP
  split
  · exact Nat.zero_le _
  · unfold attr1
    split
    · unfold attr2
      split
      · rename_i h; exact q _ _ _ h
      · split
        · rename_i h; exact q _ _ _ h
        · exact Nat.zero_le _
    · exact Nat.zero_le _
theorem startGo_va (s : ByteArray) (i : Nat) (N : List UInt8) : ∀ f a acc, (∀ x ∈ acc, x.va.size ≤ vB s.data.toList.length) → (startGo s i N f a acc).nm = N ∧ ∀ x ∈ (startGo s i N f a acc).al, x.va.size ≤ vB s.data.toList.length
  | 0, _, acc, h => ⟨rfl, h⟩
  | f + 1, a, acc, h => by
    rw [startGo]
    split
    · exact ⟨rfl, h⟩
    · split
      · exact ⟨rfl, h⟩
      · split
        · exact ⟨rfl, h⟩
        · split
          · exact ⟨rfl, h⟩
          · split
            · exact ⟨rfl, h⟩
            · split
              · exact ⟨rfl, h⟩
              · refine startGo_va s i N f _ _ fun x hx => ?_
                rcases List.mem_append.1 hx with hx | hx
                · exact h x hx
                · rw [List.mem_singleton.1 hx]
                  show (ofBytes _).size ≤ _
                  rw [ofBytes_size]
                  exact attrP_va s i _
theorem startP_va (s : ByteArray) (i : Nat) : (startP s i).nm.length ≤ s.data.toList.length ∧ ∀ x ∈ (startP s i).al, x.va.size ≤ vB s.data.toList.length := by
  unfold startP
  split
  · exact ⟨Nat.zero_le _, fun x hx => by cases hx⟩
  · obtain ⟨h1, h2⟩ := startGo_va s i ((s.data.toList.drop (i + 1)).take (nmP s (i + 1) - (i + 1))) (s.size + 1) (nmP s (i + 1)) [] (fun x hx => by cases hx)
    refine ⟨?_, h2⟩
    rw [h1, List.length_take, List.length_drop]
    omega
def TvOk (n : Nat) (t : TokD) : Prop := (t.kind = 1 → t.nm.length ≤ n) ∧ ∀ x ∈ t.al, x.va.size ≤ vB n
theorem consP_tv (s : ByteArray) (i : Nat) : TvOk s.data.toList.length (consP s i).1 := by
  have z : ∀ t : TokD, t.kind ≠ 1 → t.al = [] → TvOk s.data.toList.length t := fun t h1 h2 => ⟨fun h => absurd h h1, fun x hx => by rw [h2] at hx; cases hx⟩
  unfold consP
  split
  · exact z _ (by show ¬ (3 : Int) = 1; decide) rfl
  · split
    · exact z _ (by show ¬ (3 : Int) = 1; decide) rfl
    · split
      · unfold cdataP
        split
        · exact z _ (by first | (show ¬ (0 : Int) = 1; decide) | (show ¬ (3 : Int) = 1; decide)) rfl
        · exact z _ (by show ¬ (3 : Int) = 1; decide) rfl
      · split
        · exact z _ (by show ¬ (0 : Int) = 1; decide) rfl
        · split
          · exact z _ (by show ¬ (0 : Int) = 1; decide) rfl
          · split
            · exact z _ (by show ¬ (2 : Int) = 1; decide) rfl
            · split
              · obtain ⟨h1, h2⟩ := startP_va s i
                exact ⟨fun _ => h1, h2⟩
              · unfold dataP
                exact z _ (by show ¬ (3 : Int) = 1; decide) rfl
theorem tokGo_tv (s : ByteArray) : ∀ f a acc, (∀ t ∈ acc, TvOk s.data.toList.length t) → ∀ t ∈ (tokGo s f a acc).1, TvOk s.data.toList.length t
  | 0, _, acc, h => h
  | f + 1, a, acc, h => by
    rw [tokGo]
    split
    · split
      · intro t ht; cases ht
      · refine tokGo_tv s f _ _ ?_
        split
        · intro t ht
          rcases List.mem_append.1 ht with h1 | h1
          · exact h t h1
          · rw [List.mem_singleton.1 h1]; exact consP_tv s a
        · exact h
    · exact h
theorem toksP_tv (s : ByteArray) : ∀ t ∈ (toksP s).1, TvOk s.data.toList.length t := by
  unfold toksP
  split
  · intro t ht; cases ht
  · exact tokGo_tv s _ _ _ (fun t ht => by cases ht)
mutual
def StrOk (N : Nat) : NodeD → Prop
  | .mk _ _ nm al kids tx _ => nm.size ≤ N ∧ (∀ x ∈ al, x.va.size ≤ N) ∧ StrOks N kids ∧ tx.size ≤ N
def StrOks (N : Nat) : List NodeD → Prop
  | [] => True
  | k :: r => StrOk N k ∧ StrOks N r
end
theorem stroks_app (N : Nat) (k : NodeD) (hk : StrOk N k) : ∀ l : List NodeD, StrOks N l → StrOks N (l ++ [k])
  | [], _ => by rw [List.nil_append, StrOks, StrOks]; exact ⟨hk, trivial⟩
  | x :: r, h => by
    rw [StrOks] at h
    rw [List.cons_append, StrOks]
    exact ⟨h.1, stroks_app N k hk r h.2⟩
theorem strok_add (N : Nat) (k n : NodeD) (hk : StrOk N k) (hn : StrOk N n) : StrOk N (addKid k n) := by
  cases n
  rw [StrOk] at hn
  rw [addKid, StrOk]
  exact ⟨hn.1, hn.2.1, stroks_app N k hk _ hn.2.2.1, hn.2.2.2⟩
theorem strok_char (N : Nat) (l : List UInt8) (a : Int) (h : l.length ≤ N) : StrOk N (charK l a) := by
  unfold charK
  rw [StrOk, StrOks]
  exact ⟨Nat.zero_le _, (fun x hx => by cases hx), trivial, by rw [ofBytes_size]; exact h⟩
def MS (N : Nat) (m : Mac) : Prop := StrOk N m.top ∧ ∀ f ∈ m.up, StrOk N f
theorem MS.flush {N : Nat} {m : Mac} (h : MS N m) (hd : m.data.length ≤ N) : MS N (flushM m) := by
  unfold flushM
  split
  · exact h
  · exact ⟨strok_add N _ _ (strok_char N _ _ hd) h.1, h.2⟩
theorem MS.add {N T : Nat} {m : Mac} (t : TokD) (h : MS N m) (hd : m.data.length + T ≤ N) (ht : t.tx.length ≤ T) (hn : t.kind = 1 → t.nm.length ≤ N) (ha : ∀ x ∈ t.al, x.va.size ≤ N) : MS N (addM m t).1 ∧ (addM m t).1.data.length ≤ m.data.length + T := by
  have hf := h.flush (by omega)
  have hfd := flushM_data m
  unfold addM
  split
  · rename_i hk
    have he : StrOk N (elemN t []) := by
      unfold elemN
      rw [StrOk, StrOks]
      exact ⟨by rw [ofBytes_size]; exact hn hk, ha, trivial, Nat.zero_le _⟩
    unfold startM
    split
    · exact ⟨h, Nat.le_add_right _ _⟩
    · split
      · exact ⟨h, Nat.le_add_right _ _⟩
      · split
        · exact ⟨⟨strok_add N _ _ he hf.1, hf.2⟩, by show (flushM m).data.length ≤ _; rw [hfd]; exact Nat.zero_le _⟩
        · refine ⟨⟨he, fun f hh => ?_⟩, by show (flushM m).data.length ≤ _; rw [hfd]; exact Nat.zero_le _⟩
          rcases List.mem_cons.1 hh with rfl | hh
          · exact hf.1
          · exact hf.2 f hh
  · split
    · unfold endM
      split
      · exact ⟨h, Nat.le_add_right _ _⟩
      · split
        · exact ⟨h, Nat.le_add_right _ _⟩
        · show MS N (popM (flushM m)) ∧ (popM (flushM m)).data.length ≤ _
          unfold popM
          split
          · exact ⟨hf, by rw [hfd]; exact Nat.zero_le _⟩
          · rename_i f r hu
            exact ⟨⟨strok_add N _ _ hf.1 (hf.2 f (by rw [hu]; exact List.mem_cons_self ..)), fun x hx => hf.2 x (by rw [hu]; exact List.mem_cons_of_mem _ hx)⟩, by show (flushM m).data.length ≤ _; rw [hfd]; exact Nat.zero_le _⟩
    · unfold textM
      split
      · split
        · exact ⟨h, Nat.le_add_right _ _⟩
        · exact ⟨h, Nat.le_add_right _ _⟩
      · refine ⟨h, ?_⟩
        show (m.data ++ t.tx).length ≤ _
        rw [List.length_append]
        omega
theorem MS.run {N T : Nat} : ∀ (l : List TokD) (m : Mac), MS N m → m.data.length + l.length * T ≤ N → (∀ t ∈ l, t.tx.length ≤ T ∧ (t.kind = 1 → t.nm.length ≤ N) ∧ ∀ x ∈ t.al, x.va.size ≤ N) → MS N (runM m l).1
  | [], _, h, _, _ => h
  | t :: r, m, h, hd, hl => by
    rw [List.length_cons, Nat.succ_mul] at hd
    obtain ⟨h1, h2, h3⟩ := hl t (List.mem_cons_self ..)
    obtain ⟨g1, g2⟩ := MS.add (T := T) t h (by omega) h1 h2 h3
    rw [runM]
    split
    · exact g1
    · exact MS.run r _ g1 (by omega) (fun x hx => hl x (List.mem_cons_of_mem _ hx))
theorem parse_str (s : ByteArray) (hs : s.size ≤ 3100) : StrOk 40000000000 (parseP s).1 := by
  have hz : StrOk 40000000000 zeroN := by
    unfold zeroN
    rw [StrOk, StrOks]
    exact ⟨Nat.zero_le _, (fun x hx => by cases hx), trivial, Nat.zero_le _⟩
  have hv := toksP_tv s
  have hx := toksP_tx s
  have hn := toksP_small s
  have hvb : vB s.size ≤ 9700000 := by
    unfold vB
    exact Nat.le_trans (Nat.mul_le_mul (show s.size + 1 ≤ 3101 by omega) (show s.size + 4 ≤ 3104 by omega)) (by decide)
  rw [bsl] at hv
  have hr : MS 40000000000 (runM mac0 (toksP s).1).1 := by
    refine MS.run (T := 9700000) _ mac0 ⟨hz, fun f hf => by cases hf⟩ ?_ fun t ht => ⟨?_, fun hk => ?_, fun x hx => ?_⟩
    · show 0 + _ ≤ _
      have := Nat.mul_le_mul_right 9700000 hn.1
      omega
    · exact Nat.le_trans (hx t ht).1 hvb
    · have := (hv t ht).1 hk
      omega
    · have := (hv t ht).2 x hx
      omega
  unfold parseP
  split
  · exact hz
  · split
    · exact hz
    · split
      · rename_i k r hu hk
        have h1 := hr.1
        generalize (runM mac0 (toksP s).1).1.top = n at *
        cases n
        have hk' : _ = k :: r := hk
        subst hk'
        rw [StrOk, StrOks] at h1
        exact h1.2.2.1.1
      · exact hz
end Go.Proofs.YtoehcholbcchcaaDoor
end
section
namespace Go.Proofs.YtoehcholbcchcaaDoor
open Go.RowKit
theorem allEq_refl (off : Bool) : ∀ l : List AttrD, allEq off l l = true
  | [] => rfl
  | x :: r => by
    rw [allEq, allEq_refl off r, Bool.and_true]
    exact decide_eq_true ⟨rfl, rfl, rfl, fun _ => rfl⟩
mutual
theorem eqB_refl (off : Bool) : ∀ n : NodeD, n.eqB off n = true
  | .mk k s n al kids tx a => by
    rw [NodeD.eqB]
    have h1 : headEq off (.mk k s n al kids tx a) (.mk k s n al kids tx a) = true := decide_eq_true ⟨rfl, rfl, rfl, rfl, fun _ => rfl, rfl, rfl⟩
    rw [h1, Bool.true_and]
    show (allEq off al al && eqsB off kids kids) = true
    rw [allEq_refl, eqsB_refl off kids]
    rfl
theorem eqsB_refl (off : Bool) : ∀ l : List NodeD, eqsB off l l = true
  | [] => rfl
  | k :: r => by rw [eqsB, eqB_refl off k, eqsB_refl off r]; rfl
end
end Go.Proofs.YtoehcholbcchcaaDoor
end
