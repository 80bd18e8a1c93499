/- Packed from the texts TrfA TreE TreF TrfN TreQ TreT TreZ. -/
import Derived.Test.YtppmoeidgefkpaaGreatDoorWTextE
import Derived.Test.YtppmoeidgefkpaaGreatDoorWTextF
import Derived.Test.YtppmoeidgefkpaaGreatDoorWkD
import Derived.Test.YtppmoeidgefkpaaGreatDoorWkE
import Derived.Deep.RegionHeld3
set_option maxRecDepth 100000
namespace Go.Proofs.YtppmoeidgefkpaaGreatDoor
section
open Go.RowKit
mutual
def NodeD.mass : NodeD → Nat
 | .mk _ sp nm al kids tx _ => 1 + sp.size + nm.size + tx.size + (al.map fun x => 1 + x.sp.size + x.nm.size + x.va.size).sum + masses kids
def masses : List NodeD → Nat
 | [] => 0
 | k :: r => k.mass + masses r
end
theorem sum_len : ∀ l : List AttrD, l.length ≤ (l.map fun x => 1 + x.sp.size + x.nm.size + x.va.size).sum
 | [] => Nat.le_refl _
 | x :: r => by
  rw [List.map_cons, List.sum_cons, List.length_cons]
  have := sum_len r
  omega
end
section
open Go.RowKit
set_option maxHeartbeats 32000000 in
theorem eq_main_false (f : Nat) (IH0 : EqC false f) : EqM false f := by
  intro O hO w k1 s1 n1 t1 a1 a2 al bl kids lids pa pk qa qk ca ck da dk R hR hq5 h6 h7 hkm hkl hal hA hK hB hL
  have HKM := Lib.hid hkm
  have H6 := Lib.hid h6
  have H7 := Lib.hid h7
  have HD2 := Lib.hid hR
  have HO := Lib.hid hO
  have IH : ∀ (n m : NodeD) (v u : Value) (w : World), n.wt ≤ f → n.wt ≤ 100000000 → NodeIs w n v → NodeIs w m u → Calls Tryz.prog 10 #[v, u, .bool false] w fun e w' => e = .returned (.bool (n.eqB O m)) ∧ Below w.heap.size w w' := fun n m v u w a b c d => by rw [hO]; exact IH0 n m v u w a b c d
  have hbw : Below w.heap.size w ((w.alloc (.cells #[.int .i64 k1, .string s1, .string n1, .slice pa al.length ca, .slice pk kids.length ck, .string t1, .int .i64 a1] 25)).alloc (.cells #[.int .i64 k1, .string s1, .string n1, .slice qa al.length da, .slice qk kids.length dk, .string t1, .int .i64 a2] 25)) := ((Below.refl _ _).alloc (Nat.le_refl _) _).alloc (by simp) _
  clear hO hR h6 h7 hkm hq5 IH0
  have f13 : ((w.alloc (.cells #[.int .i64 k1, .string s1, .string n1, .slice pa al.length ca, .slice pk kids.length ck, .string t1, .int .i64 a1] 25)).alloc (.cells #[.int .i64 k1, .string s1, .string n1, .slice qa al.length da, .slice qk kids.length dk, .string t1, .int .i64 a2] 25)).cell? ⟨w.heap.size, 3, none⟩ = some (.slice pa al.length ca) := by simp
  have f23 : ((w.alloc (.cells #[.int .i64 k1, .string s1, .string n1, .slice pa al.length ca, .slice pk kids.length ck, .string t1, .int .i64 a1] 25)).alloc (.cells #[.int .i64 k1, .string s1, .string n1, .slice qa al.length da, .slice qk kids.length dk, .string t1, .int .i64 a2] 25)).cell? ⟨w.heap.size + 1, 3, none⟩ = some (.slice qa al.length da) := by simp
  have f14 : ((w.alloc (.cells #[.int .i64 k1, .string s1, .string n1, .slice pa al.length ca, .slice pk kids.length ck, .string t1, .int .i64 a1] 25)).alloc (.cells #[.int .i64 k1, .string s1, .string n1, .slice qa al.length da, .slice qk kids.length dk, .string t1, .int .i64 a2] 25)).cell? ⟨w.heap.size, 4, none⟩ = some (.slice pk kids.length ck) := by simp
  have f24 : ((w.alloc (.cells #[.int .i64 k1, .string s1, .string n1, .slice pa al.length ca, .slice pk kids.length ck, .string t1, .int .i64 a1] 25)).alloc (.cells #[.int .i64 k1, .string s1, .string n1, .slice qa al.length da, .slice qk kids.length dk, .string t1, .int .i64 a2] 25)).cell? ⟨w.heap.size + 1, 4, none⟩ = some (.slice qk kids.length dk) := by simp
  have hz0 : ((w.alloc (.cells #[.int .i64 k1, .string s1, .string n1, .slice pa al.length ca, .slice pk kids.length ck, .string t1, .int .i64 a1] 25)).alloc (.cells #[.int .i64 k1, .string s1, .string n1, .slice qa al.length da, .slice qk kids.length dk, .string t1, .int .i64 a2] 25)).heap.size = w.heap.size + 2 := by simp
  go_enter Tryz.func10, Tryz.ntmps10
  go_wp2
  generalize ((w.alloc (.cells #[.int .i64 k1, .string s1, .string n1, .slice pa al.length ca, .slice pk kids.length ck, .string t1, .int .i64 a1] 25)).alloc (.cells #[.int .i64 k1, .string s1, .string n1, .slice qa al.length da, .slice qk kids.length dk, .string t1, .int .i64 a2] 25)) = W0 at *
  go_loopw [7] (fun q wr => ∃ i : Nat, i ≤ al.length ∧ q = .int .i64 i ∧ allEq O al bl = allEq O (al.drop i) (bl.drop i) ∧ Below (w.heap.size + 2) W0 wr) (fun q _ => al.length - (intOf q).toNat)
  case atStart => exact ⟨0, Nat.zero_le _, rfl, rfl, Below.refl _ _⟩
  case round =>
   obtain ⟨i, hi, rfl, hrel, hbel⟩ := hrel
   obtain ⟨wo, rfl⟩ : ∃ wo, wo = wr := ⟨_, rfl⟩
   have hzo : w.heap.size + 2 ≤ wo.heap.size := by have := hbel.size; omega
   have hbo : Below w.heap.size w wo := hbw.trans (hbel.mono (by omega))
   have g13 := (hbel.cell (p := ⟨w.heap.size, 3, none⟩) (by show w.heap.size < _; omega)).trans f13
   have g23 := (hbel.cell (p := ⟨w.heap.size + 1, 3, none⟩) (by show w.heap.size + 1 < _; omega)).trans f23
   by_cases hlt : i < al.length
   case pos =>
    have hiz : (i : Int) < (al.length : Int) := by omega
    have hltm : i < bl.length := by have := H6.out; omega
    obtain ⟨a, rfl, a0, a1', a2', a3⟩ := hA.below hbo i hlt
    obtain ⟨b, rfl, b0, b1, b2, b3⟩ := hB.below hbo i hltm
    rw [allEq_drop O al bl i hlt hltm] at hrel
    obtain ⟨x, hx⟩ : ∃ x, al[i] = x := ⟨_, rfl⟩
    obtain ⟨y, hy⟩ : ∃ y, bl[i] = y := ⟨_, rfl⟩
    rw [hx] at a0 a1' a2' a3
    rw [hy] at b0 b1 b2 b3
    rw [hx, hy] at hrel
    obtain ⟨xs, xn, xv, xa⟩ := x
    obtain ⟨ys, yn, yv, ya⟩ := y
    simp only at a0 a1' a2' a3 b0 b1 b2 b3
    have hae : attrEqB O ⟨xs, xn, xv, xa⟩ ⟨ys, yn, yv, ya⟩ = decide (xs = ys ∧ xn = yn ∧ xv = yv ∧ (O = true → xa = ya)) := rfl
    rw [hae] at hrel
    obtain ⟨cc, hcc⟩ : ∃ c, a.add (i * 4) = c := ⟨_, rfl⟩
    obtain ⟨dd, hdd⟩ : ∃ c, b.add (i * 4) = c := ⟨_, rfl⟩
    rw [hcc] at a0 a1' a2' a3
    rw [hdd] at b0 b1 b2 b3
    simp only [Addr.add, Nat.reduceEqDiff, ↓reduceIte] at a1' a2' a3 b1 b2 b3
    have HR := Lib.hid hrel
    have wq : ∀ (o : Obj) (c : Addr) (v : Value), wo.cell? c = some v → (wo.alloc o).cell? c = some v := fun o c v h => (((Below.refl wo.heap.size wo).alloc (Nat.le_refl _) o).cell (kbl h)).trans h
    have w0 : ∀ o, _ := fun o => wq o _ _ b0
    have w1 : ∀ o, _ := fun o => wq o _ _ b1
    have w2 : ∀ o, _ := fun o => wq o _ _ b2
    have w3 : ∀ o, _ := fun o => wq o _ _ b3
    have w4 : ∀ o, _ := fun o => wq o _ _ g23
    clear hrel hae hx hy hA hB hK hL wq f13 f23 f14 f24 IH
    have hb2 : ∀ o1 o2 : Obj, Below w.heap.size w ((wo.alloc o1).alloc o2) := fun o1 o2 => (hbo.alloc (by omega) _).alloc (by simp; omega) _
    have hb3 : ∀ o1 o2 : Obj, Below (w.heap.size + 2) W0 ((wo.alloc o1).alloc o2) := fun o1 o2 => (hbel.alloc hzo _).alloc (by simp; omega) _
    by_cases e1 : xs = ys
    case neg =>
     have HN := Lib.hid (show R = false by rw [HD2.out, HR.out, decide_eq_false (fun q => e1 q.1)]; rfl)
     have p1 := str_ne e1
     have p2 := str_ne2 e1
     have p3 := str_ne3 e1
     clear e1 HR
     go_wp2
     go_ret
     exact ⟨trB (by rw [HN.out]), hb2 _ _⟩
    subst e1
    by_cases e2 : xn = yn
    case neg =>
     have HN := Lib.hid (show R = false by rw [HD2.out, HR.out, decide_eq_false (fun q => e2 q.2.1)]; rfl)
     have p1 := str_ne e2
     have p2 := str_ne2 e2
     have p3 := str_ne3 e2
     clear e2 HR
     go_wp2
     go_ret
     exact ⟨trB (by rw [HN.out]), hb2 _ _⟩
    subst e2
    by_cases e3 : xv = yv
    case neg =>
     have HN := Lib.hid (show R = false by rw [HD2.out, HR.out, decide_eq_false (fun q => e3 q.2.2.1)]; rfl)
     have p1 := str_ne e3
     have p2 := str_ne2 e3
     have p3 := str_ne3 e3
     clear e3 HR
     go_wp2
     go_ret
     exact ⟨trB (by rw [HN.out]), hb2 _ _⟩
    subst e3
    by_cases e4 : O = true ∧ xa ≠ ya
    case pos =>
     first
      | (exact absurd (HO.out.symm.trans e4.1) (by decide))
      | (
        have HN := Lib.hid (show R = false by rw [HD2.out, HR.out, decide_eq_false (fun q => e4.2 (q.2.2.2 e4.1))]; rfl)
        have p1 : (xa != ya) = true := by simpa using e4.2
        clear e4 HR
        go_wp2
        go_ret
        exact ⟨trB (by rw [HN.out]), hb2 _ _⟩)
    case neg =>
     have hxa : O = true → xa = ya := fun e => Classical.byContradiction fun q => e4 ⟨e, q⟩
     have HN := Lib.hid (show allEq O al bl = allEq O (al.drop (i + 1)) (bl.drop (i + 1)) by rw [HR.out, decide_eq_true ⟨rfl, rfl, rfl, hxa⟩, Bool.true_and])
     skip
     clear e4 HR hxa
     go_wp2
     go_roundw
     case rel => exact ⟨i + 1, by omega, by go_num, HN.out, hb3 _ _⟩
     case measure => simp [intOf]; omega
   case neg =>
    obtain rfl : i = al.length := by omega
    have hall : allEq O al bl = true := by rw [hrel, List.drop_eq_nil_of_le (Nat.le_refl _), allEq]
    have HE := Lib.hid (show R = eqsB O kids lids by rw [HD2.out, hall, Bool.true_and])
    have g14 := (hbel.cell (p := ⟨w.heap.size, 4, none⟩) (by show w.heap.size < _; omega)).trans f14
    have hiz : ¬ (al.length : Int) < (al.length : Int) := by omega
    clear hrel hall hA hB g23 f13 f23 HD2
    go_wp2
    go_loopw [10] (fun q wr => ∃ j : Nat, j ≤ kids.length ∧ q = .int .i64 j ∧ eqsB O kids lids = eqsB O (kids.drop j) (lids.drop j) ∧ Below (w.heap.size + 2) W0 wr) (fun q _ => kids.length - (intOf q).toNat)
    case atStart => exact ⟨0, Nat.zero_le _, rfl, rfl, hbel⟩
    case round =>
     clear g13 g14 hbel hbo hzo
     obtain ⟨j, hj, rfl, hrl, hbl⟩ := hrel
     obtain ⟨wi, rfl⟩ : ∃ wi, wi = wr := ⟨_, rfl⟩
     have hzi : w.heap.size + 2 ≤ wi.heap.size := by have := hbl.size; omega
     have hbi : Below w.heap.size w wi := hbw.trans (hbl.mono (by omega))
     have k14 := (hbl.cell (p := ⟨w.heap.size, 4, none⟩) (by show w.heap.size < _; omega)).trans f14
     have k24 := (hbl.cell (p := ⟨w.heap.size + 1, 4, none⟩) (by show w.heap.size + 1 < _; omega)).trans f24
     by_cases hjl : j < kids.length
     case pos =>
      have hjm : j < lids.length := by have := H7.out; omega
      have hjz : (j : Int) < (kids.length : Int) := by omega
      have hj0 : (0 : Int) ≤ (j : Int) := by omega
      obtain ⟨a, v0, v1, v2, v3, v4, v5, v6, rfl, ⟨a0, a1', a2', a3, a4, a5, a6⟩, hk⟩ := KidsAt.get kids 0 (hK.below hbi) j hjl
      obtain ⟨b, u0, u1, u2, u3, u4, u5, u6, rfl, ⟨b0, b1, b2, b3, b4, b5, b6⟩, hl⟩ := KidsAt.get lids 0 (hL.below hbi) j hjm
      rw [Nat.zero_add] at a0 a1' a2' a3 a4 a5 a6 b0 b1 b2 b3 b4 b5 b6
      rw [eqsB_drop O kids lids j hjl hjm] at hrl
      have hmem : kids[j] ∈ kids := List.getElem_mem _
      have c1 := IH kids[j] lids[j] _ _ wi.drew (HKM.out _ hmem).1 (HKM.out _ hmem).2 (NodeIs.below ((Below.refl _ _).drew) _ _ hk) (NodeIs.below ((Below.refl _ _).drew) _ _ hl)
      obtain ⟨r, hr⟩ : ∃ r, NodeD.eqB O kids[j] lids[j] = r := ⟨_, rfl⟩
      rw [hr] at c1 hrl
      obtain ⟨cc, hcc⟩ : ∃ c, a.add (j * 7) = c := ⟨_, rfl⟩
      obtain ⟨dd, hdd⟩ : ∃ c, b.add (j * 7) = c := ⟨_, rfl⟩
      rw [hcc] at a0 a1' a2' a3 a4 a5 a6
      rw [hdd] at b0 b1 b2 b3 b4 b5 b6
      simp only [Addr.add, Nat.reduceEqDiff, ↓reduceIte] at a1' a2' a3 a4 a5 a6 b1 b2 b3 b4 b5 b6
      have HR := Lib.hid hrl
      have kS : ∀ w5, Below wi.drew.heap.size wi.drew w5 → (w5.cell? ⟨w.heap.size, 4, none⟩ = some (.slice (some a) kids.length ck) ∧ w5.cell? ⟨w.heap.size + 1, 4, none⟩ = some (.slice (some b) kids.length dk)) ∧ (w5.cell? cc = some v0 ∧ w5.cell? ⟨cc.block, cc.off + 1, none⟩ = some v1 ∧ w5.cell? ⟨cc.block, cc.off + 2, none⟩ = some v2 ∧ w5.cell? ⟨cc.block, cc.off + 3, none⟩ = some v3 ∧ w5.cell? ⟨cc.block, cc.off + 4, none⟩ = some v4 ∧ w5.cell? ⟨cc.block, cc.off + 5, none⟩ = some v5 ∧ w5.cell? ⟨cc.block, cc.off + 6, none⟩ = some v6) ∧ (w5.cell? dd = some u0 ∧ w5.cell? ⟨dd.block, dd.off + 1, none⟩ = some u1 ∧ w5.cell? ⟨dd.block, dd.off + 2, none⟩ = some u2 ∧ w5.cell? ⟨dd.block, dd.off + 3, none⟩ = some u3 ∧ w5.cell? ⟨dd.block, dd.off + 4, none⟩ = some u4 ∧ w5.cell? ⟨dd.block, dd.off + 5, none⟩ = some u5 ∧ w5.cell? ⟨dd.block, dd.off + 6, none⟩ = some u6) := fun w5 bb => ⟨⟨(bb.cell (kbl k14)).trans k14, (bb.cell (kbl k24)).trans k24⟩, ⟨(bb.cell (kbl a0)).trans a0, (bb.cell (kbl a1')).trans a1', (bb.cell (kbl a2')).trans a2', (bb.cell (kbl a3)).trans a3, (bb.cell (kbl a4)).trans a4, (bb.cell (kbl a5)).trans a5, (bb.cell (kbl a6)).trans a6⟩, ⟨(bb.cell (kbl b0)).trans b0, (bb.cell (kbl b1)).trans b1, (bb.cell (kbl b2)).trans b2, (bb.cell (kbl b3)).trans b3, (bb.cell (kbl b4)).trans b4, (bb.cell (kbl b5)).trans b5, (bb.cell (kbl b6)).trans b6⟩⟩
      clear hrl hr hk hl hK hL hmem IH HKM f14 f24
      go_wp2
      go_region_held3 (fun w' => (w'.cell? ⟨w.heap.size, 4, none⟩ = some (.slice (some a) kids.length ck) ∧ w'.cell? ⟨w.heap.size + 1, 4, none⟩ = some (.slice (some b) kids.length dk)) ∧ (w'.cell? cc = some v0 ∧ w'.cell? ⟨cc.block, cc.off + 1, none⟩ = some v1 ∧ w'.cell? ⟨cc.block, cc.off + 2, none⟩ = some v2 ∧ w'.cell? ⟨cc.block, cc.off + 3, none⟩ = some v3 ∧ w'.cell? ⟨cc.block, cc.off + 4, none⟩ = some v4 ∧ w'.cell? ⟨cc.block, cc.off + 5, none⟩ = some v5 ∧ w'.cell? ⟨cc.block, cc.off + 6, none⟩ = some v6) ∧ (w'.cell? dd = some u0 ∧ w'.cell? ⟨dd.block, dd.off + 1, none⟩ = some u1 ∧ w'.cell? ⟨dd.block, dd.off + 2, none⟩ = some u2 ∧ w'.cell? ⟨dd.block, dd.off + 3, none⟩ = some u3 ∧ w'.cell? ⟨dd.block, dd.off + 4, none⟩ = some u4 ∧ w'.cell? ⟨dd.block, dd.off + 5, none⟩ = some u5 ∧ w'.cell? ⟨dd.block, dd.off + 6, none⟩ = some u6)) (first | exact ⟨⟨k14, k24⟩, ⟨a0, a1', a2', a3, a4, a5, a6⟩, ⟨b0, b1, b2, b3, b4, b5, b6⟩⟩ | exact hS5) (first | (go_at_call 10; refine c1.mono ?_; rintro e w5 ⟨rfl, b5'⟩; have hS5 := kS w5 b5'))
      have hb5 : Below (w.heap.size + 2) W0 w5 := hbl.drew.trans (b5'.mono hzi)
      have hbw5 : Below w.heap.size w w5 := hbw.trans (hb5.mono (by omega))
      clear kS hS5 c1 k14 k24 a0 a1' a2' a3 a4 a5 a6 b0 b1 b2 b3 b4 b5 b6
      rcases r with _ | _
      ·have HX := Lib.hid (show R = false by rw [HE.out, HR.out]; rfl)
       go_wp2
       go_ret
       exact ⟨trB (by rw [HX.out]), hbw5⟩
      ·have HX := Lib.hid (HR.out.trans (Bool.true_and _))
       go_wp2
       go_roundw
       case rel => exact ⟨j + 1, by omega, by go_num, HX.out, hb5⟩
       case measure => simp [intOf]; omega
     case neg =>
      obtain rfl : j = kids.length := by omega
      have HX := Lib.hid (show R = true by rw [HE.out, hrl, List.drop_eq_nil_of_le (Nat.le_refl _), eqsB])
      have hjz : ¬ (kids.length : Int) < (kids.length : Int) := by omega
      clear hrl hK hL
      go_wp2
      go_ret
      exact ⟨trB (by rw [HX.out]), hbi⟩
end
section
open Go.RowKit
set_option maxHeartbeats 32000000 in
theorem eq_main_true (f : Nat) (IH0 : EqC true f) : EqM true f := by
  intro O hO w k1 s1 n1 t1 a1 a2 al bl kids lids pa pk qa qk ca ck da dk R hR hq5 h6 h7 hkm hkl hal hA hK hB hL
  have HKM := Lib.hid hkm
  have H6 := Lib.hid h6
  have H7 := Lib.hid h7
  have HD2 := Lib.hid hR
  have HO := Lib.hid hO
  have IH : ∀ (n m : NodeD) (v u : Value) (w : World), n.wt ≤ f → n.wt ≤ 100000000 → NodeIs w n v → NodeIs w m u → Calls Tryz.prog 10 #[v, u, .bool true] w fun e w' => e = .returned (.bool (n.eqB O m)) ∧ Below w.heap.size w w' := fun n m v u w a b c d => by rw [hO]; exact IH0 n m v u w a b c d
  have hbw : Below w.heap.size w ((w.alloc (.cells #[.int .i64 k1, .string s1, .string n1, .slice pa al.length ca, .slice pk kids.length ck, .string t1, .int .i64 a1] 25)).alloc (.cells #[.int .i64 k1, .string s1, .string n1, .slice qa al.length da, .slice qk kids.length dk, .string t1, .int .i64 a2] 25)) := ((Below.refl _ _).alloc (Nat.le_refl _) _).alloc (by simp) _
  have q5 := hq5 rfl
  clear hO hR h6 h7 hkm hq5 IH0
  have f13 : ((w.alloc (.cells #[.int .i64 k1, .string s1, .string n1, .slice pa al.length ca, .slice pk kids.length ck, .string t1, .int .i64 a1] 25)).alloc (.cells #[.int .i64 k1, .string s1, .string n1, .slice qa al.length da, .slice qk kids.length dk, .string t1, .int .i64 a2] 25)).cell? ⟨w.heap.size, 3, none⟩ = some (.slice pa al.length ca) := by simp
  have f23 : ((w.alloc (.cells #[.int .i64 k1, .string s1, .string n1, .slice pa al.length ca, .slice pk kids.length ck, .string t1, .int .i64 a1] 25)).alloc (.cells #[.int .i64 k1, .string s1, .string n1, .slice qa al.length da, .slice qk kids.length dk, .string t1, .int .i64 a2] 25)).cell? ⟨w.heap.size + 1, 3, none⟩ = some (.slice qa al.length da) := by simp
  have f14 : ((w.alloc (.cells #[.int .i64 k1, .string s1, .string n1, .slice pa al.length ca, .slice pk kids.length ck, .string t1, .int .i64 a1] 25)).alloc (.cells #[.int .i64 k1, .string s1, .string n1, .slice qa al.length da, .slice qk kids.length dk, .string t1, .int .i64 a2] 25)).cell? ⟨w.heap.size, 4, none⟩ = some (.slice pk kids.length ck) := by simp
  have f24 : ((w.alloc (.cells #[.int .i64 k1, .string s1, .string n1, .slice pa al.length ca, .slice pk kids.length ck, .string t1, .int .i64 a1] 25)).alloc (.cells #[.int .i64 k1, .string s1, .string n1, .slice qa al.length da, .slice qk kids.length dk, .string t1, .int .i64 a2] 25)).cell? ⟨w.heap.size + 1, 4, none⟩ = some (.slice qk kids.length dk) := by simp
  have hz0 : ((w.alloc (.cells #[.int .i64 k1, .string s1, .string n1, .slice pa al.length ca, .slice pk kids.length ck, .string t1, .int .i64 a1] 25)).alloc (.cells #[.int .i64 k1, .string s1, .string n1, .slice qa al.length da, .slice qk kids.length dk, .string t1, .int .i64 a2] 25)).heap.size = w.heap.size + 2 := by simp
  go_enter Tryz.func10, Tryz.ntmps10
  go_wp2
  generalize ((w.alloc (.cells #[.int .i64 k1, .string s1, .string n1, .slice pa al.length ca, .slice pk kids.length ck, .string t1, .int .i64 a1] 25)).alloc (.cells #[.int .i64 k1, .string s1, .string n1, .slice qa al.length da, .slice qk kids.length dk, .string t1, .int .i64 a2] 25)) = W0 at *
  go_loopw [7] (fun q wr => ∃ i : Nat, i ≤ al.length ∧ q = .int .i64 i ∧ allEq O al bl = allEq O (al.drop i) (bl.drop i) ∧ Below (w.heap.size + 2) W0 wr) (fun q _ => al.length - (intOf q).toNat)
  case atStart => exact ⟨0, Nat.zero_le _, rfl, rfl, Below.refl _ _⟩
  case round =>
   obtain ⟨i, hi, rfl, hrel, hbel⟩ := hrel
   obtain ⟨wo, rfl⟩ : ∃ wo, wo = wr := ⟨_, rfl⟩
   have hzo : w.heap.size + 2 ≤ wo.heap.size := by have := hbel.size; omega
   have hbo : Below w.heap.size w wo := hbw.trans (hbel.mono (by omega))
   have g13 := (hbel.cell (p := ⟨w.heap.size, 3, none⟩) (by show w.heap.size < _; omega)).trans f13
   have g23 := (hbel.cell (p := ⟨w.heap.size + 1, 3, none⟩) (by show w.heap.size + 1 < _; omega)).trans f23
   by_cases hlt : i < al.length
   case pos =>
    have hiz : (i : Int) < (al.length : Int) := by omega
    have hltm : i < bl.length := by have := H6.out; omega
    obtain ⟨a, rfl, a0, a1', a2', a3⟩ := hA.below hbo i hlt
    obtain ⟨b, rfl, b0, b1, b2, b3⟩ := hB.below hbo i hltm
    rw [allEq_drop O al bl i hlt hltm] at hrel
    obtain ⟨x, hx⟩ : ∃ x, al[i] = x := ⟨_, rfl⟩
    obtain ⟨y, hy⟩ : ∃ y, bl[i] = y := ⟨_, rfl⟩
    rw [hx] at a0 a1' a2' a3
    rw [hy] at b0 b1 b2 b3
    rw [hx, hy] at hrel
    obtain ⟨xs, xn, xv, xa⟩ := x
    obtain ⟨ys, yn, yv, ya⟩ := y
    simp only at a0 a1' a2' a3 b0 b1 b2 b3
    have hae : attrEqB O ⟨xs, xn, xv, xa⟩ ⟨ys, yn, yv, ya⟩ = decide (xs = ys ∧ xn = yn ∧ xv = yv ∧ (O = true → xa = ya)) := rfl
    rw [hae] at hrel
    obtain ⟨cc, hcc⟩ : ∃ c, a.add (i * 4) = c := ⟨_, rfl⟩
    obtain ⟨dd, hdd⟩ : ∃ c, b.add (i * 4) = c := ⟨_, rfl⟩
    rw [hcc] at a0 a1' a2' a3
    rw [hdd] at b0 b1 b2 b3
    simp only [Addr.add, Nat.reduceEqDiff, ↓reduceIte] at a1' a2' a3 b1 b2 b3
    have HR := Lib.hid hrel
    have wq : ∀ (o : Obj) (c : Addr) (v : Value), wo.cell? c = some v → (wo.alloc o).cell? c = some v := fun o c v h => (((Below.refl wo.heap.size wo).alloc (Nat.le_refl _) o).cell (kbl h)).trans h
    have w0 : ∀ o, _ := fun o => wq o _ _ b0
    have w1 : ∀ o, _ := fun o => wq o _ _ b1
    have w2 : ∀ o, _ := fun o => wq o _ _ b2
    have w3 : ∀ o, _ := fun o => wq o _ _ b3
    have w4 : ∀ o, _ := fun o => wq o _ _ g23
    clear hrel hae hx hy hA hB hK hL wq f13 f23 f14 f24 IH
    have hb2 : ∀ o1 o2 : Obj, Below w.heap.size w ((wo.alloc o1).alloc o2) := fun o1 o2 => (hbo.alloc (by omega) _).alloc (by simp; omega) _
    have hb3 : ∀ o1 o2 : Obj, Below (w.heap.size + 2) W0 ((wo.alloc o1).alloc o2) := fun o1 o2 => (hbel.alloc hzo _).alloc (by simp; omega) _
    by_cases e1 : xs = ys
    case neg =>
     have HN := Lib.hid (show R = false by rw [HD2.out, HR.out, decide_eq_false (fun q => e1 q.1)]; rfl)
     have p1 := str_ne e1
     have p2 := str_ne2 e1
     have p3 := str_ne3 e1
     clear e1 HR
     go_wp2
     go_ret
     exact ⟨trB (by rw [HN.out]), hb2 _ _⟩
    subst e1
    by_cases e2 : xn = yn
    case neg =>
     have HN := Lib.hid (show R = false by rw [HD2.out, HR.out, decide_eq_false (fun q => e2 q.2.1)]; rfl)
     have p1 := str_ne e2
     have p2 := str_ne2 e2
     have p3 := str_ne3 e2
     clear e2 HR
     go_wp2
     go_ret
     exact ⟨trB (by rw [HN.out]), hb2 _ _⟩
    subst e2
    by_cases e3 : xv = yv
    case neg =>
     have HN := Lib.hid (show R = false by rw [HD2.out, HR.out, decide_eq_false (fun q => e3 q.2.2.1)]; rfl)
     have p1 := str_ne e3
     have p2 := str_ne2 e3
     have p3 := str_ne3 e3
     clear e3 HR
     go_wp2
     go_ret
     exact ⟨trB (by rw [HN.out]), hb2 _ _⟩
    subst e3
    by_cases e4 : O = true ∧ xa ≠ ya
    case pos =>
     first
      | (exact absurd (HO.out.symm.trans e4.1) (by decide))
      | (
        have HN := Lib.hid (show R = false by rw [HD2.out, HR.out, decide_eq_false (fun q => e4.2 (q.2.2.2 e4.1))]; rfl)
        have p1 : (xa != ya) = true := by simpa using e4.2
        clear e4 HR
        go_wp2
        go_ret
        exact ⟨trB (by rw [HN.out]), hb2 _ _⟩)
    case neg =>
     have hxa : O = true → xa = ya := fun e => Classical.byContradiction fun q => e4 ⟨e, q⟩
     have HN := Lib.hid (show allEq O al bl = allEq O (al.drop (i + 1)) (bl.drop (i + 1)) by rw [HR.out, decide_eq_true ⟨rfl, rfl, rfl, hxa⟩, Bool.true_and])
     have q9 : (xa != ya) = false := by simp [hxa HO.out]
     clear e4 HR hxa
     go_wp2
     go_roundw
     case rel => exact ⟨i + 1, by omega, by go_num, HN.out, hb3 _ _⟩
     case measure => simp [intOf]; omega
   case neg =>
    obtain rfl : i = al.length := by omega
    have hall : allEq O al bl = true := by rw [hrel, List.drop_eq_nil_of_le (Nat.le_refl _), allEq]
    have HE := Lib.hid (show R = eqsB O kids lids by rw [HD2.out, hall, Bool.true_and])
    have g14 := (hbel.cell (p := ⟨w.heap.size, 4, none⟩) (by show w.heap.size < _; omega)).trans f14
    have hiz : ¬ (al.length : Int) < (al.length : Int) := by omega
    clear hrel hall hA hB g23 f13 f23 HD2
    go_wp2
    go_loopw [10] (fun q wr => ∃ j : Nat, j ≤ kids.length ∧ q = .int .i64 j ∧ eqsB O kids lids = eqsB O (kids.drop j) (lids.drop j) ∧ Below (w.heap.size + 2) W0 wr) (fun q _ => kids.length - (intOf q).toNat)
    case atStart => exact ⟨0, Nat.zero_le _, rfl, rfl, hbel⟩
    case round =>
     clear g13 g14 hbel hbo hzo
     obtain ⟨j, hj, rfl, hrl, hbl⟩ := hrel
     obtain ⟨wi, rfl⟩ : ∃ wi, wi = wr := ⟨_, rfl⟩
     have hzi : w.heap.size + 2 ≤ wi.heap.size := by have := hbl.size; omega
     have hbi : Below w.heap.size w wi := hbw.trans (hbl.mono (by omega))
     have k14 := (hbl.cell (p := ⟨w.heap.size, 4, none⟩) (by show w.heap.size < _; omega)).trans f14
     have k24 := (hbl.cell (p := ⟨w.heap.size + 1, 4, none⟩) (by show w.heap.size + 1 < _; omega)).trans f24
     by_cases hjl : j < kids.length
     case pos =>
      have hjm : j < lids.length := by have := H7.out; omega
      have hjz : (j : Int) < (kids.length : Int) := by omega
      have hj0 : (0 : Int) ≤ (j : Int) := by omega
      obtain ⟨a, v0, v1, v2, v3, v4, v5, v6, rfl, ⟨a0, a1', a2', a3, a4, a5, a6⟩, hk⟩ := KidsAt.get kids 0 (hK.below hbi) j hjl
      obtain ⟨b, u0, u1, u2, u3, u4, u5, u6, rfl, ⟨b0, b1, b2, b3, b4, b5, b6⟩, hl⟩ := KidsAt.get lids 0 (hL.below hbi) j hjm
      rw [Nat.zero_add] at a0 a1' a2' a3 a4 a5 a6 b0 b1 b2 b3 b4 b5 b6
      rw [eqsB_drop O kids lids j hjl hjm] at hrl
      have hmem : kids[j] ∈ kids := List.getElem_mem _
      have c1 := IH kids[j] lids[j] _ _ wi.drew (HKM.out _ hmem).1 (HKM.out _ hmem).2 (NodeIs.below ((Below.refl _ _).drew) _ _ hk) (NodeIs.below ((Below.refl _ _).drew) _ _ hl)
      obtain ⟨r, hr⟩ : ∃ r, NodeD.eqB O kids[j] lids[j] = r := ⟨_, rfl⟩
      rw [hr] at c1 hrl
      obtain ⟨cc, hcc⟩ : ∃ c, a.add (j * 7) = c := ⟨_, rfl⟩
      obtain ⟨dd, hdd⟩ : ∃ c, b.add (j * 7) = c := ⟨_, rfl⟩
      rw [hcc] at a0 a1' a2' a3 a4 a5 a6
      rw [hdd] at b0 b1 b2 b3 b4 b5 b6
      simp only [Addr.add, Nat.reduceEqDiff, ↓reduceIte] at a1' a2' a3 a4 a5 a6 b1 b2 b3 b4 b5 b6
      have HR := Lib.hid hrl
      have kS : ∀ w5, Below wi.drew.heap.size wi.drew w5 → (w5.cell? ⟨w.heap.size, 4, none⟩ = some (.slice (some a) kids.length ck) ∧ w5.cell? ⟨w.heap.size + 1, 4, none⟩ = some (.slice (some b) kids.length dk)) ∧ (w5.cell? cc = some v0 ∧ w5.cell? ⟨cc.block, cc.off + 1, none⟩ = some v1 ∧ w5.cell? ⟨cc.block, cc.off + 2, none⟩ = some v2 ∧ w5.cell? ⟨cc.block, cc.off + 3, none⟩ = some v3 ∧ w5.cell? ⟨cc.block, cc.off + 4, none⟩ = some v4 ∧ w5.cell? ⟨cc.block, cc.off + 5, none⟩ = some v5 ∧ w5.cell? ⟨cc.block, cc.off + 6, none⟩ = some v6) ∧ (w5.cell? dd = some u0 ∧ w5.cell? ⟨dd.block, dd.off + 1, none⟩ = some u1 ∧ w5.cell? ⟨dd.block, dd.off + 2, none⟩ = some u2 ∧ w5.cell? ⟨dd.block, dd.off + 3, none⟩ = some u3 ∧ w5.cell? ⟨dd.block, dd.off + 4, none⟩ = some u4 ∧ w5.cell? ⟨dd.block, dd.off + 5, none⟩ = some u5 ∧ w5.cell? ⟨dd.block, dd.off + 6, none⟩ = some u6) := fun w5 bb => ⟨⟨(bb.cell (kbl k14)).trans k14, (bb.cell (kbl k24)).trans k24⟩, ⟨(bb.cell (kbl a0)).trans a0, (bb.cell (kbl a1')).trans a1', (bb.cell (kbl a2')).trans a2', (bb.cell (kbl a3)).trans a3, (bb.cell (kbl a4)).trans a4, (bb.cell (kbl a5)).trans a5, (bb.cell (kbl a6)).trans a6⟩, ⟨(bb.cell (kbl b0)).trans b0, (bb.cell (kbl b1)).trans b1, (bb.cell (kbl b2)).trans b2, (bb.cell (kbl b3)).trans b3, (bb.cell (kbl b4)).trans b4, (bb.cell (kbl b5)).trans b5, (bb.cell (kbl b6)).trans b6⟩⟩
      clear hrl hr hk hl hK hL hmem IH HKM f14 f24
      go_wp2
      go_region_held3 (fun w' => (w'.cell? ⟨w.heap.size, 4, none⟩ = some (.slice (some a) kids.length ck) ∧ w'.cell? ⟨w.heap.size + 1, 4, none⟩ = some (.slice (some b) kids.length dk)) ∧ (w'.cell? cc = some v0 ∧ w'.cell? ⟨cc.block, cc.off + 1, none⟩ = some v1 ∧ w'.cell? ⟨cc.block, cc.off + 2, none⟩ = some v2 ∧ w'.cell? ⟨cc.block, cc.off + 3, none⟩ = some v3 ∧ w'.cell? ⟨cc.block, cc.off + 4, none⟩ = some v4 ∧ w'.cell? ⟨cc.block, cc.off + 5, none⟩ = some v5 ∧ w'.cell? ⟨cc.block, cc.off + 6, none⟩ = some v6) ∧ (w'.cell? dd = some u0 ∧ w'.cell? ⟨dd.block, dd.off + 1, none⟩ = some u1 ∧ w'.cell? ⟨dd.block, dd.off + 2, none⟩ = some u2 ∧ w'.cell? ⟨dd.block, dd.off + 3, none⟩ = some u3 ∧ w'.cell? ⟨dd.block, dd.off + 4, none⟩ = some u4 ∧ w'.cell? ⟨dd.block, dd.off + 5, none⟩ = some u5 ∧ w'.cell? ⟨dd.block, dd.off + 6, none⟩ = some u6)) (first | exact ⟨⟨k14, k24⟩, ⟨a0, a1', a2', a3, a4, a5, a6⟩, ⟨b0, b1, b2, b3, b4, b5, b6⟩⟩ | exact hS5) (first | (go_at_call 10; refine c1.mono ?_; rintro e w5 ⟨rfl, b5'⟩; have hS5 := kS w5 b5'))
      have hb5 : Below (w.heap.size + 2) W0 w5 := hbl.drew.trans (b5'.mono hzi)
      have hbw5 : Below w.heap.size w w5 := hbw.trans (hb5.mono (by omega))
      clear kS hS5 c1 k14 k24 a0 a1' a2' a3 a4 a5 a6 b0 b1 b2 b3 b4 b5 b6
      rcases r with _ | _
      ·have HX := Lib.hid (show R = false by rw [HE.out, HR.out]; rfl)
       go_wp2
       go_ret
       exact ⟨trB (by rw [HX.out]), hbw5⟩
      ·have HX := Lib.hid (HR.out.trans (Bool.true_and _))
       go_wp2
       go_roundw
       case rel => exact ⟨j + 1, by omega, by go_num, HX.out, hb5⟩
       case measure => simp [intOf]; omega
     case neg =>
      obtain rfl : j = kids.length := by omega
      have HX := Lib.hid (show R = true by rw [HE.out, hrl, List.drop_eq_nil_of_le (Nat.le_refl _), eqsB])
      have hjz : ¬ (kids.length : Int) < (kids.length : Int) := by omega
      clear hrl hK hL
      go_wp2
      go_ret
      exact ⟨trB (by rw [HX.out]), hbi⟩
theorem tref_Equal : ∀ (off : Bool) (f : Nat), EqC off f
 | _, 0 => fun n _ _ _ _ hf _ _ _ => absurd hf (by have := wt_eq n; omega)
 | false, f + 1 => eq_heads false f (eq_main_false f (tref_Equal false f))
 | true, f + 1 => eq_heads true f (eq_main_true f (tref_Equal true f))
end
section
open Go.RowKit
theorem node_form {w : World} {n : NodeD} {v : Value} (h : NodeIs w n v) : ∃ pa ca pk ck, v = .agg #[.int .i64 n.kind, .string n.sp, .string n.nm, .slice pa n.al.length ca, .slice pk n.kids.length ck, .string n.tx, .int .i64 n.at'] := by
 obtain ⟨pa, ca, pk, ck, hv, _, _⟩ := (node_is w n v).1 h
 exact ⟨pa, ca, pk, ck, hv⟩
end
section
open Go.RowKit
def A8 (w' : World) (c d : Addr) (x y : AttrD) : Prop := w'.cell? c = some (.string x.sp) ∧ w'.cell? ⟨c.block, c.off + 1, none⟩ = some (.string x.nm) ∧ w'.cell? ⟨c.block, c.off + 2, none⟩ = some (.string x.va) ∧ w'.cell? ⟨c.block, c.off + 3, none⟩ = some (.int .i64 x.at') ∧ w'.cell? d = some (.string y.sp) ∧ w'.cell? ⟨d.block, d.off + 1, none⟩ = some (.string y.nm) ∧ w'.cell? ⟨d.block, d.off + 2, none⟩ = some (.string y.va) ∧ w'.cell? ⟨d.block, d.off + 3, none⟩ = some (.int .i64 y.at')
theorem A8.below {w1 w2 : World} {c d : Addr} {x y : AttrD} (h : A8 w1 c d x y) (hb : Below w1.heap.size w1 w2) : A8 w2 c d x y := by
 obtain ⟨h0, h1, h2, h3, h4, h5, h6, h7⟩ := h
 exact ⟨(hb.cell (kbl h0)).trans h0, (hb.cell (kbl h1)).trans h1, (hb.cell (kbl h2)).trans h2, (hb.cell (kbl h3)).trans h3, (hb.cell (kbl h4)).trans h4, (hb.cell (kbl h5)).trans h5, (hb.cell (kbl h6)).trans h6, (hb.cell (kbl h7)).trans h7⟩
end
section
open Go.RowKit
def Box (w : World) (b : Nat) (pa : Option Addr) (ca : Nat) (pk : Option Addr) (ck : Nat) : Prop := w.cell? ⟨b, 0, none⟩ = some (.int .i64 0) ∧ w.cell? ⟨b, 1, none⟩ = some (.string ⟨#[]⟩) ∧ w.cell? ⟨b, 2, none⟩ = some (.string ⟨#[97]⟩) ∧ w.cell? ⟨b, 3, none⟩ = some (.slice pa 0 ca) ∧ w.cell? ⟨b, 4, none⟩ = some (.slice pk 2 ck) ∧ w.cell? ⟨b, 5, none⟩ = some (.string ⟨#[]⟩) ∧ w.cell? ⟨b, 6, none⟩ = some (.int .i64 0)
theorem Box.below {w w' : World} {b : Nat} {pa : Option Addr} {ca : Nat} {pk : Option Addr} {ck : Nat} (h : Box w b pa ca pk ck) (hb : Below w.heap.size w w') : Box w' b pa ca pk ck := by
 obtain ⟨h0, h1, h2, h3, h4, h5, h6⟩ := h
 exact ⟨(hb.cell (kbl h0)).trans h0, (hb.cell (kbl h1)).trans h1, (hb.cell (kbl h2)).trans h2, (hb.cell (kbl h3)).trans h3, (hb.cell (kbl h4)).trans h4, (hb.cell (kbl h5)).trans h5, (hb.cell (kbl h6)).trans h6⟩
end
section
open Go.RowKit
theorem tref_element (l : List TokD) (z : Int) (hln : l.length ≤ 10000) (htx : ∀ u ∈ l, u.tx.length ≤ 100050004) : ∀ (N F : Nat), F ≤ N → ElC l z F
 | 0, F, hF => by
  intro d i p A ct a0 w hi hf _ _ _
  omega
 | N + 1, F, hF => by
  match F, hF with
  | 0, _ =>
   intro d i p A ct a0 w hi hf _ _ _
   omega
  | F + 1, hF => exact el_step l z hln htx F (fun G hG => tref_element l z hln htx N G (by omega))
def RootAt (X : List Nat) (w : World) (R B P : Nat) : Option NodeD → Prop
 | none => Blk w B nodeZs 25
 | some n => ∃ pa ca pk ck, Blk w B #[.int .i64 n.kind, .string n.sp, .string n.nm, .slice pa n.al.length ca, .slice pk n.kids.length ck, .string n.tx, .int .i64 n.at'] 25 ∧ NodeIs (holes w ([R, B, P] ++ X)) n (.agg #[.int .i64 n.kind, .string n.sp, .string n.nm, .slice pa n.al.length ca, .slice pk n.kids.length ck, .string n.tx, .int .i64 n.at'])
theorem RootAt.keep {X : List Nat} {w w' : World} {R B P : Nat} {r : Option NodeD} (h : RootAt X w R B P r) (hk : Keep P w w') (hB : B ≠ P) : RootAt X w' R B P r := by
 cases r with
 | none => exact Blk.keep (h : Blk w B nodeZs _) hk hB
 | some n =>
  obtain ⟨pa, ca, pk, ck, hb, hn⟩ := h
  exact ⟨pa, ca, pk, ck, hb.keep hk hB, hn.go (Goes.keep hk (by simp))⟩
structure TopR (X : List Nat) (w0 : World) (A : Option Addr) (ct : Nat) (l : List TokD) (R B P : Nat) (i : Nat) (r : Option NodeD) (w : World) : Prop where
 lows : w0.heap.size ≤ R ∧ R < B ∧ P < B ∧ R ≠ P ∧ w0.heap.size ≤ P
 par : Par w P A l.length ct (i : Int) 0 0
 res : Blk w R nodeZs 25
 root : RootAt X w R B P r
 toks : TokensAt (holes w ([R, B, P] ++ X)) A l
 blt : B < w.heap.size
 bel : Below w0.heap.size w0 w
theorem TopR.keeps {X : List Nat} {w0 w w' : World} {A : Option Addr} {ct : Nat} {l : List TokD} {R B P i j : Nat} {r : Option NodeD} (h : TopR X w0 A ct l R B P i r w) (hk : Keep P w w') (hP : Par w' P A l.length ct (j : Int) 0 0) : TopR X w0 A ct l R B P j r w' := by
 obtain ⟨h1, h2, h3, h4, h5⟩ := h.lows
 exact ⟨h.lows, hP, h.res.keep hk h4, h.root.keep hk (by omega), h.toks.go (Goes.keep hk (by simp)), by have := hk.size; have := h.blt; omega, hk.below h.bel h5 h.bel.size⟩
theorem TopR.below {X : List Nat} {w0 w w' : World} {A : Option Addr} {ct : Nat} {l : List TokD} {R B P i : Nat} {r : Option NodeD} (h : TopR X w0 A ct l R B P i r w) (hb : Below w.heap.size w w') : TopR X w0 A ct l R B P i r w' := h.keeps (Keep.of hb) (h.par.keep hb)
theorem TopR.found {X : List Nat} {w0 w w' : World} {A : Option Addr} {ct : Nat} {l : List TokD} {R B P i j : Nat} {n : NodeD} {pa : Option Addr} {ca : Nat} {pk : Option Addr} {ck : Nat} (h : TopR X w0 A ct l R B P i none w) (hk : Keep P w w') (hP : Par w' P A l.length ct (j : Int) 0 0)
  (hn : NodeIs (holes w' ([R, B, P] ++ X)) n (.agg #[.int .i64 n.kind, .string n.sp, .string n.nm, .slice pa n.al.length ca, .slice pk n.kids.length ck, .string n.tx, .int .i64 n.at'])) :
  TopR X w0 A ct l R B P j (some n) (((((((w'.setCell ⟨B, 0, none⟩ (.int .i64 n.kind)).setCell ⟨B, 1, none⟩ (.string n.sp)).setCell ⟨B, 2, none⟩ (.string n.nm)).setCell ⟨B, 3, none⟩ (.slice pa n.al.length ca)).setCell ⟨B, 4, none⟩ (.slice pk n.kids.length ck)).setCell ⟨B, 5, none⟩ (.string n.tx)).setCell ⟨B, 6, none⟩ (.int .i64 n.at')) := by
 obtain ⟨h1, h2, h3, h4, h5⟩ := h.lows
 have hB : Blk w' B nodeZs 25 := Blk.keep (h.root : Blk w B nodeZs _) hk (by omega)
 have k7 := sevK2 B w' (.int .i64 n.kind) (.string n.sp) (.string n.nm) (.slice pa n.al.length ca) (.slice pk n.kids.length ck) (.string n.tx) (.int .i64 n.at')
 have hgo : Goes w' ([R, B, P] ++ X) (((((((w'.setCell ⟨B, 0, none⟩ (.int .i64 n.kind)).setCell ⟨B, 1, none⟩ (.string n.sp)).setCell ⟨B, 2, none⟩ (.string n.nm)).setCell ⟨B, 3, none⟩ (.slice pa n.al.length ca)).setCell ⟨B, 4, none⟩ (.slice pk n.kids.length ck)).setCell ⟨B, 5, none⟩ (.string n.tx)).setCell ⟨B, 6, none⟩ (.int .i64 n.at')) ([R, B, P] ++ X) := Goes.keep k7 (by simp)
 have hz := h.blt
 refine ⟨h.lows, par_sev hP (by omega) _ _ _ _ _ _ _, (h.res.keep hk h4).keep k7 (by omega), ?_, (h.toks.go (Goes.keep hk (by simp))).go hgo, ?_, k7.below (hk.below h.bel h5 h.bel.size) (by omega) ?_⟩
 ·exact ⟨pa, ca, pk, ck, ((((((hB.set 0 _).set 1 _).set 2 _).set 3 _).set 4 _).set 5 _).set 6 _, hn.go hgo⟩
 ·have := hk.size
  have := k7.size
  omega
 ·have := hk.size
  have := h.bel.size
  omega
def ParsX (X : List Nat) (w0 : World) (R : NodeD × Int × Int) (e : Ending) (w' : World) : Prop := ∃ v, e = .returned (.tuple #[v, .int .i64 R.2.1, .int .i64 R.2.2]) ∧ NodeIs (holes w' X) R.1 v ∧ Below w0.heap.size w0 w'
theorem pars_zero {X : List Nat} {w w9 : World} {R : Nat} {x : Int × Int} {Q : NodeD × Int × Int} (hq : Q = (zeroN, x)) (hb : Below w.heap.size w w9) (hR : w.heap.size ≤ R) (u0 u1 u2 u3 u4 u5 u6 : Value) : ParsX X w Q (.returned (.tuple #[zeroV, .int .i64 x.1, .int .i64 x.2])) (((((((w9.setCell ⟨R, 0, none⟩ u0).setCell ⟨R, 1, none⟩ u1).setCell ⟨R, 2, none⟩ u2).setCell ⟨R, 3, none⟩ u3).setCell ⟨R, 4, none⟩ u4).setCell ⟨R, 5, none⟩ u5).setCell ⟨R, 6, none⟩ u6) := by
 subst hq
 exact ⟨zeroV, rfl, zero_is _, (sevK2 R w9 u0 u1 u2 u3 u4 u5 u6).below hb hR hb.size⟩
theorem pars_zeroD {X : List Nat} {w w9 : World} {R : Nat} {x : Int × Int} {Q : NodeD × Int × Int} (hq : Q = (zeroN, x)) (hb : Below w.heap.size w w9) (hR : w.heap.size ≤ R) (u0 u1 u2 u3 u4 u5 u6 : Value) : ParsX X w Q (.returned (.tuple #[zeroV, .int .i64 x.1, .int .i64 x.2])) (((((((w9.setCell ⟨R, 0, none⟩ u0).setCell ⟨R, 1, none⟩ u1).setCell ⟨R, 2, none⟩ u2).setCell ⟨R, 3, none⟩ u3).setCell ⟨R, 4, none⟩ u4).setCell ⟨R, 5, none⟩ u5).setCell ⟨R, 6, none⟩ u6).drew := by
 subst hq
 exact ⟨zeroV, rfl, zero_is _, ((sevK2 R w9 u0 u1 u2 u3 u4 u5 u6).below hb hR hb.size).drew⟩
theorem sev_cell {w : World} {R : Nat} {a : Addr} {v : Value} (h : w.cell? a = some v) (hne : a.block ≠ R) (u0 u1 u2 u3 u4 u5 u6 : Value) : (((((((w.setCell ⟨R, 0, none⟩ u0).setCell ⟨R, 1, none⟩ u1).setCell ⟨R, 2, none⟩ u2).setCell ⟨R, 3, none⟩ u3).setCell ⟨R, 4, none⟩ u4).setCell ⟨R, 5, none⟩ u5).setCell ⟨R, 6, none⟩ u6).drew.cell? a = some v :=
 (Keep.cell (Keep.drew (sevK2 R w u0 u1 u2 u3 u4 u5 u6)) (kbl h) hne).trans h
set_option maxHeartbeats 16000000 in
theorem tref_ParseX (X : List Nat) (s : ByteArray) (w : World) (hs : s.size ≤ 10000) (hX : ∀ b ∈ X, b < w.heap.size) : Calls Tryz.prog 11 #[.string s] w fun e w' => ParsX X w (parseP s) e w' := by
 obtain ⟨W0, hW0⟩ : ∃ W0, W0 = w.alloc (.cells nodeZs 25) := ⟨_, rfl⟩
 have P0 : Blk W0 w.heap.size nodeZs 25 := by rw [hW0]; exact Blk.new w _ _
 have B0 : Below w.heap.size w W0 := by rw [hW0]; exact (Below.refl _ _).alloc (Nat.le_refl _) _
 have cT := tref_Tokens s W0 (by omega)
 have hsm := (toksP_small s).1
 have htx := toksP_tx s
 have htop := parse_top s
 have hbad : (toksP s).2.2 ≠ 0 → parseP s = (zeroN, (toksP s).2.1, (toksP s).2.2) := fun h => if_pos h
 have hM : (s.size + 1) * (s.size + 4) ≤ 10001 * 10004 := Nat.mul_le_mul (by omega) (by omega)
 have hEL := tref_element (toksP s).1 (s.size : Int) (by omega) (fun u hu => by have := (htx u hu).1; omega) (2 * (toksP s).1.length + 1) (2 * (toksP s).1.length + 1) (Nat.le_refl _)
 generalize parseP s = PP at *
 generalize toksP s = TP at *
 obtain ⟨l, x1, x2⟩ := TP
 simp only at hsm htx htop hbad hEL
 have HEL := Lib.hid hEL
 have HTX := Lib.hid htx
 have HP0 := Lib.hid P0
 have HB0 := Lib.hid B0
 have hz0 : W0.heap.size = w.heap.size + 1 := by rw [hW0]; simp
 clear hEL htx P0 B0
 go_enter Tryz.func11, Tryz.ntmps11
 go_upto_region 1 with fail
 simp only [nodeZs] at hW0
 simp only [← hW0]
 clear hW0
 go_wp2_with fail
 refine cT.mono ?_
 rintro e w1 ⟨v, ps, rfl, hps, hrow, b1⟩
 obtain ⟨A, ct, rfl⟩ := own_form hrow.1
 obtain ⟨hlen, hta⟩ := tokens_of_row hrow
 simp only at hps
 rw [hps] at hta
 have hpl : ps.length = l.length := by have h := congrArg List.length hps; rwa [List.length_map] at h
 rw [hpl]
 have hrow2 : TokRow (holes w1 ([w.heap.size] ++ X)) W0.heap.size (.slice A ps.length ct) ps := ⟨row_hole hrow.1 (fun b hb => (List.mem_append.1 hb).elim (fun hb => by rw [List.mem_singleton.1 hb]; omega) (fun hb => by have := hX b hb; omega)), fun p hp => row_hole (hrow.2 p hp) (fun b hb => (List.mem_append.1 hb).elim (fun hb => by rw [List.mem_singleton.1 hb]; omega) (fun hb => by have := hX b hb; omega))⟩
 obtain ⟨-, hta2⟩ := tokens_of_row hrow2
 rw [hps] at hta2
 have R1 := HP0.out.more b1
 have B1 := HB0.out.trans (b1.mono HB0.out.size)
 have hRz := R1.lt
 clear hrow hrow2 hps hlen hpl b1 hta cT HP0 HB0
 by_cases hx2 : x2 = 0
 ·subst hx2
  have HTOP := Lib.hid (htop rfl).symm
  obtain ⟨W3, hW3⟩ : ∃ W3, W3 = (w1.alloc (.cells #[.slice A l.length ct, .int .i64 0, .int .i64 0, .int .i64 0] 72)).alloc (.cells nodeZs 25) := ⟨_, rfl⟩
  have bA : Below w1.heap.size w1 (w1.alloc (.cells #[.slice A l.length ct, .int .i64 0, .int .i64 0, .int .i64 0] 72)) := (Below.refl _ _).alloc (Nat.le_refl _) _
  have hzA : (w1.alloc (.cells #[.slice A l.length ct, .int .i64 0, .int .i64 0, .int .i64 0] 72)).heap.size = w1.heap.size + 1 := by simp
  have bB : Below (w1.alloc (.cells #[.slice A l.length ct, .int .i64 0, .int .i64 0, .int .i64 0] 72)).heap.size (w1.alloc (.cells #[.slice A l.length ct, .int .i64 0, .int .i64 0, .int .i64 0] 72)) W3 := by rw [hW3]; exact (Below.refl _ _).alloc (Nat.le_refl _) _
  have b3 : Below w1.heap.size w1 W3 := bA.trans (bB.mono bA.size)
  have hT3 : TopR X w A ct l w.heap.size (w1.heap.size + 1) w1.heap.size 0 none W3 := by
   refine ⟨⟨Nat.le_refl _, by omega, by omega, by omega, by omega⟩, ?_, R1.more b3, ?_, hta2.go (fun b hb hn => ⟨?_, b3.block b hb⟩), ?_, B1.trans (b3.mono B1.size)⟩
   ·exact (show Par (w1.alloc (.cells #[.slice A l.length ct, .int .i64 0, .int .i64 0, .int .i64 0] 72)) w1.heap.size A l.length ct 0 0 0 from Blk.new w1 _ _).keep bB
   ·have := Blk.new (w1.alloc (.cells #[.slice A l.length ct, .int .i64 0, .int .i64 0, .int .i64 0] 72)) nodeZs 25
    rw [hzA] at this
    rw [hW3]
    exact this
   ·simp only [List.mem_append, List.mem_cons, List.not_mem_nil, or_false, not_or] at hn ⊢
    exact ⟨⟨hn.1, by omega, by omega⟩, hn.2⟩
   ·rw [hW3]
    simp
  clear htop hbad bA hzA bB b3 R1 B1 hta2
  have hRP : w.heap.size ≠ w1.heap.size := by omega
  have hRB : w.heap.size ≠ w1.heap.size + 1 := by omega
  go_upto_region 6 with fail
  simp only [nodeZs] at hW3
  simp only [← hW3]
  clear hW3
  have HT3 := Lib.hid hT3
  clear hT3
  generalize w1.heap.size = P at hRz hRP hRB HT3 ⊢
  go_wp2
  go_loopw [10] (fun f wr => ∃ (i g : Nat) (r : Option NodeD), f = .bool r.isSome ∧ i ≤ l.length ∧ l.length - i < g ∧ PP = topP l (s.size : Int) g i r ∧ TopR X w A ct l w.heap.size (P + 1) P i r wr) (fun _ wr => l.length - (intOf ((wr.cell? ⟨P, 1, none⟩).getD (.bool false))).toNat)
  case atStart => exact ⟨0, l.length + 1, none, rfl, Nat.zero_le _, by omega, HTOP.out, HT3.out⟩
  case round =>
   clear HT3 HTOP
   obtain ⟨i, g, r, rfl, hi, hg, hrel, hT⟩ := hrel
   obtain ⟨g, rfl⟩ : ∃ g', g = g' + 1 := ⟨g - 1, by omega⟩
   have c1 := hT.par.cells.2.1
   have HT := Lib.hid hT
   have hrel2 := hrel
   unfold topP at hrel2
   have HREL := Lib.hid hrel2
   have M1 := Lib.hid c1
   clear hT hrel hrel2
   by_cases hlt : i < l.length
   ·have hiz : (i : Int) < (l.length : Int) := by omega
    obtain ⟨ad, qu, cu, hA, ⟨b0, b1, b2, b3, b4, b5⟩, -⟩ := HT.out.toks i hlt
    subst hA
    replace b0 := (holes_cell b0).1
    replace b1 := (holes_cell b1).1
    replace b2 := (holes_cell b2).1
    replace b3 := (holes_cell b3).1
    replace b4 := (holes_cell b4).1
    replace b5 := (holes_cell b5).1
    have hrel := HREL.out
    rw [List.getElem?_eq_getElem hlt] at hrel
    have htt := HTX.out l[i] (List.getElem_mem _)
    obtain ⟨t, ht⟩ : ∃ t, l[i] = t := ⟨_, rfl⟩
    rw [ht] at b0 b1 b2 b3 b4 b5 hrel htt
    simp only at hrel
    have HRL := Lib.hid hrel
    have HTT := Lib.hid htt
    obtain ⟨dd, hdd⟩ : ∃ dd, ad.add (i * 6) = dd := ⟨_, rfl⟩
    rw [hdd] at b0 b1 b2 b3 b4 b5
    simp only [Addr.add, Nat.reduceEqDiff, ↓reduceIte] at b1 b2 b3 b4 b5
    have hi0 : (0 : Int) ≤ (i : Int) := by omega
    obtain ⟨W4, hW4⟩ : ∃ W4, W4 = wr.alloc (.cells #[.int .i64 t.kind, .string (oB t.nm), .slice qu t.al.length cu, .bool t.em, .string (oB t.tx), .int .i64 t.at'] 73) := ⟨_, rfl⟩
    have hT4 := HT.out.below (w' := W4) (by rw [hW4]; exact (Below.refl _ _).alloc (Nat.le_refl _) _)
    have hU : Blk W4 wr.heap.size #[.int .i64 t.kind, .string (oB t.nm), .slice qu t.al.length cu, .bool t.em, .string (oB t.tx), .int .i64 t.at'] 73 := by rw [hW4]; exact Blk.new wr _ _
    have u0 : W4.cell? ⟨wr.heap.size, 0, none⟩ = some (.int .i64 t.kind) := hU.cell 0
    have u4 : W4.cell? ⟨wr.heap.size, 4, none⟩ = some (.string (oB t.tx)) := hU.cell 4
    have u5 : W4.cell? ⟨wr.heap.size, 5, none⟩ = some (.int .i64 t.at') := hU.cell 5
    have HT4 := Lib.hid hT4
    clear hrel HREL htt hT4 hU
    go_upto_region 13 with fail
    simp only [← hW4]
    clear hW4 b0 b1 b2 b3 b4 b5 c1 hdd
    have hRU : w.heap.size ≠ wr.heap.size := Nat.ne_of_lt HT.out.res.lt
    have hUR : wr.heap.size ≠ w.heap.size := hRU.symm
    generalize wr.heap.size = U at u0 u4 u5 hRU hUR ⊢
    have p1 := HT4.out.par.cells.2.1
    have q1 := HT4.out.par.frz 1
    have hw1 : IntKind.i64.wrap ((i : Int) + 1) = (i : Int) + 1 := wrap_small _ (by omega) (by omega)
    by_cases k1 : t.kind = 1
    ·rw [k1] at u0
     clear u4
     cases r with
     | some n =>
      have HPE := Lib.hid (HRL.out.trans (if_pos ⟨k1, rfl⟩))
      clear HRL k1 p1 q1
      obtain ⟨⟨r0, r1, r2, r3, r4, r5, r6⟩, g0, g1, g2, g3, g4, g5, g6⟩ := HT4.out.res.seven
      generalize hq : w.heap.size = hs' at r0 r1 r2 r3 r4 r5 r6 g0 g1 g2 g3 g4 g5 g6 hRP hRB hRU hUR ⊢
      have HQ := Lib.hid hq
      clear hq
      go_wp2
      have hS0 : W4.drew.cell? ⟨U, 5, none⟩ = some (.int .i64 t.at') := u5
      have hSs := fun y0 y1 y2 y3 y4 y5 y6 => sev_cell (R := hs') u5 hUR y0 y1 y2 y3 y4 y5 y6
      go_region_held3 (fun w' => w'.cell? ⟨U, 5, none⟩ = some (.int .i64 t.at')) (first | with_reducible exact hS0 | with_reducible exact hSs _ _ _ _ _ _ _) (fail)
      all_goals
       go_wp2
       exact bodyPost_ret (v := .tuple #[zeroV, .int .i64 t.at', .int .i64 17]) (by simp [results, Tryz.results11, go_sem, cSs, r0, r1, r2, r3, r4, r5, r6, zeroV]) rfl (pars_zeroD (x := (t.at', 17)) HPE.out HT4.out.bel (by have := HQ.out; omega) _ _ _ _ _ _ _)
     | none =>
      have HRN := Lib.hid (HRL.out.trans ((if_neg (fun q => absurd q.2 (by decide))).trans ((if_neg (by rw [k1]; decide)).trans (if_neg (by rw [k1]; decide)))))
      clear HRL k1 p1 q1 u5
      have hT4t := HT4.out.toks
      have hlow := HT4.out.lows
      have hblt := HT4.out.blt
      have hLO : LeftOut W4 P (some ad) l ([w.heap.size, P + 1, P] ++ X) := ⟨fun b hb => (List.mem_append.1 hb).elim (fun hb => by simp at hb; omega) (fun hb => by have := hX b hb; have := HT4.out.bel.size; omega), by simp, hT4t⟩
      have hTP : TokensAt (holes W4 [P]) (some ad) l := hT4t.go (Goes.less (fun k hk => by rw [List.mem_singleton.1 hk]; simp))
      have cE := HEL.out 1 i P (some ad) ct 0 W4 hlt (by omega) (by decide) HT4.out.par hTP
      rw [show ((1 : Nat) : Int) = 1 from rfl] at cE
      have HLO := Lib.hid hLO
      have HBD := Lib.hid ((el_bound l (s.size : Int) (2 * l.length + 1)).1 1 i hlt (by omega))
      clear hT4t hlow hblt hLO hTP
      generalize elP l (s.size : Int) (2 * l.length + 1) 1 i = r1 at *
      obtain ⟨n1, j2, a2, e2⟩ := r1
      simp only at HRN HBD
      go_wp2_with fail
      refine cE.mono ?_
      rintro e w2 ⟨v, rfl, ⟨j1, a1, hP2, h0, h1⟩, kk2, hn2⟩
      simp only at hP2 h0 h1 hn2
      obtain ⟨xa, xc, xk, xd, rfl, -, -⟩ := (node_is _ n1 _).1 (hn2 _ HLO.out)
      have HN2 := Lib.hid (hn2 _ HLO.out)
      have hlow := HT4.out.lows
      have hRoot : Blk w2 (P + 1) nodeZs 25 := Blk.keep (HT4.out.root : Blk W4 (P + 1) nodeZs _) kk2 (by omega)
      obtain ⟨⟨z0, z1, z2, z3, z4, z5, z6⟩, f0, f1, f2, f3, f4, f5, f6⟩ := hRoot.seven
      have y3 := hP2.cells.2.2.2
      have hPB : P ≠ P + 1 := by omega
      have hBP : P + 1 ≠ P := by omega
      have HP2 := Lib.hid hP2
      have HK2 := Lib.hid kk2
      have HRT := Lib.hid hRoot
      clear hn2 cE hP2 kk2 hlow hRoot
      by_cases he2 : e2 = 0
      ·subst he2
       obtain ⟨rfl, rfl⟩ := h0 rfl
       have HRM := Lib.hid (HRN.out.trans (if_neg (fun q => q rfl)))
       obtain ⟨hj2, hj2l, -⟩ := HBD.out rfl
       clear HRN HBD h0 h1
       go_wp2
       go_roundw
       case rel =>
        refine ⟨j2, g, some n1, rfl, hj2l, by omega, HRM.out, ?_⟩
        exact TopR.found HT4.out HK2.out HP2.out HN2.out
       case measure =>
        rw [M1.out, (TopR.found HT4.out HK2.out HP2.out HN2.out).par.cells.2.1]
        simp [intOf]
        omega
      ·have heb : (e2 != 0) = true := by simpa using he2
       have HPE := Lib.hid (HRN.out.trans (if_pos he2))
       have hae := h1 he2
       subst hae
       obtain ⟨W7, hW7⟩ : ∃ W7, W7 = ((((((w2.setCell ⟨P + 1, 0, none⟩ (.int .i64 n1.kind)).setCell ⟨P + 1, 1, none⟩ (.string n1.sp)).setCell ⟨P + 1, 2, none⟩ (.string n1.nm)).setCell ⟨P + 1, 3, none⟩ (.slice xa n1.al.length xc)).setCell ⟨P + 1, 4, none⟩ (.slice xk n1.kids.length xd)).setCell ⟨P + 1, 5, none⟩ (.string n1.tx)).setCell ⟨P + 1, 6, none⟩ (.int .i64 n1.at') := ⟨_, rfl⟩
       have k7 : Keep (P + 1) w2 W7 := by rw [hW7]; exact sevK2 _ _ _ _ _ _ _ _ _
       have hP7 : Par W7 P (some ad) l.length ct j1 a1 e2 := by rw [hW7]; exact par_sev HP2.out hBP _ _ _ _ _ _ _
       have hR7 : Blk W7 w.heap.size nodeZs 25 := Blk.keep (Blk.keep HT4.out.res HK2.out hRP) k7 hRB
       have HB7 := Lib.hid (k7.below (HK2.out.below HT4.out.bel HT4.out.lows.2.2.2.2 HT4.out.bel.size) (by have := HT4.out.lows; omega) (by have := HK2.out.size; have := HT4.out.bel.size; omega))
       have y2 := hP7.cells.2.2.1
       have y3' := hP7.cells.2.2.2
       clear HRN HBD h0 h1 HRT k7 hP7
       go_upto_region 10 with fail
       simp only [← hW7]
       clear hW7 f0 f1 f2 f3 f4 f5 f6 z0 z1 z2 z3 z4 z5 z6 y3
       obtain ⟨⟨r0, r1, r2, r3, r4, r5, r6⟩, g0, g1, g2, g3, g4, g5, g6⟩ := hR7.seven
       have hPR : P ≠ w.heap.size := hRP.symm
       clear hR7
       generalize hq : w.heap.size = hs' at r0 r1 r2 r3 r4 r5 r6 g0 g1 g2 g3 g4 g5 g6 hRP hPR hRB hRU hUR ⊢
       have HQ := Lib.hid hq
       clear hq
       have hS0 : W7.drew.cell? ⟨P, 2, none⟩ = some (.int .i64 a1) ∧ W7.drew.cell? ⟨P, 3, none⟩ = some (.int .i64 e2) := ⟨y2, y3'⟩
       have hSs := fun x0 x1 x2 x3 x4 x5 x6 => And.intro (sev_cell (R := hs') y2 hPR x0 x1 x2 x3 x4 x5 x6) (sev_cell (R := hs') y3' hPR x0 x1 x2 x3 x4 x5 x6)
       go_wp2
       go_region_held3 (fun w' => w'.cell? ⟨P, 2, none⟩ = some (.int .i64 a1) ∧ w'.cell? ⟨P, 3, none⟩ = some (.int .i64 e2)) (first | with_reducible exact hS0 | with_reducible exact hSs _ _ _ _ _ _ _) (fail)
       all_goals
        go_wp2
        exact bodyPost_ret (v := .tuple #[zeroV, .int .i64 a1, .int .i64 e2]) (by simp [results, Tryz.results11, go_sem, cSs, r0, r1, r2, r3, r4, r5, r6, zeroV]) rfl (pars_zeroD (x := (a1, e2)) HPE.out HB7.out (by have := HQ.out; omega) _ _ _ _ _ _ _)
    ·have k1b : (t.kind == 1) = false := by simpa using k1
     by_cases k2 : t.kind = 2
     ·rw [k2] at u0
      have HPE := Lib.hid (HRL.out.trans ((if_neg (fun q => k1 q.1)).trans (if_pos k2)))
      clear HRL k1 k1b k2 p1 q1 u4
      obtain ⟨⟨r0, r1, r2, r3, r4, r5, r6⟩, g0, g1, g2, g3, g4, g5, g6⟩ := HT4.out.res.seven
      generalize hq : w.heap.size = hs' at r0 r1 r2 r3 r4 r5 r6 g0 g1 g2 g3 g4 g5 g6 hRP hRB hRU hUR ⊢
      have HQ := Lib.hid hq
      clear hq
      go_wp2
      have hS0 : W4.drew.cell? ⟨U, 5, none⟩ = some (.int .i64 t.at') := u5
      have hSs := fun y0 y1 y2 y3 y4 y5 y6 => sev_cell (R := hs') u5 hUR y0 y1 y2 y3 y4 y5 y6
      go_region_held3 (fun w' => w'.cell? ⟨U, 5, none⟩ = some (.int .i64 t.at')) (first | with_reducible exact hS0 | with_reducible exact hSs _ _ _ _ _ _ _) (fail)
      all_goals
       go_wp2
       exact bodyPost_ret (v := .tuple #[zeroV, .int .i64 t.at', .int .i64 14]) (by simp [results, Tryz.results11, go_sem, cSs, r0, r1, r2, r3, r4, r5, r6, zeroV]) rfl (pars_zeroD (x := (t.at', 14)) HPE.out HT4.out.bel (by have := HQ.out; omega) _ _ _ _ _ _ _)
     ·have k3 : t.kind = 3 := by
       rcases HTT.out.2.1 with h | h | h
       ·exact absurd h k1
       ·exact absurd h k2
       ·exact h
      rw [k3] at u0
      have HRM := Lib.hid (HRL.out.trans ((if_neg (fun q => k1 q.1)).trans ((if_neg k2).trans (if_pos k3))))
      have hts : (oB t.tx).size ≤ 1000000000 := by
       rw [oBz]
       have := HTT.out.1
       omega
      have cB : ∀ wx, _ := fun wx => tref_Blank (oB t.tx) wx hts
      rw [oBl] at cB
      clear HRL k1 k1b k2 k3 hts
      rcases hb : blankB t.tx with _ | _
      ·rw [hb] at cB
       have HPE := Lib.hid (HRM.out.trans (if_neg (by rw [hb]; decide)))
       clear HRM hb p1 q1
       obtain ⟨⟨r0, r1, r2, r3, r4, r5, r6⟩, g0, g1, g2, g3, g4, g5, g6⟩ := HT4.out.res.seven
       generalize hq : w.heap.size = hs' at r0 r1 r2 r3 r4 r5 r6 g0 g1 g2 g3 g4 g5 g6 hRP hRB hRU hUR ⊢
       have HQ := Lib.hid hq
       clear hq
       go_wp2_with fail
       refine (cB _).mono ?_
       rintro e w9 ⟨rfl, rfl⟩
       go_wp2
       have hS0 : W4.drew.cell? ⟨U, 5, none⟩ = some (.int .i64 t.at') := u5
       have hSs := fun y0 y1 y2 y3 y4 y5 y6 => sev_cell (R := hs') u5 hUR y0 y1 y2 y3 y4 y5 y6
       go_region_held3 (fun w' => w'.cell? ⟨U, 5, none⟩ = some (.int .i64 t.at')) (first | with_reducible exact hS0 | with_reducible exact hSs _ _ _ _ _ _ _) (fail)
       all_goals
        go_wp2
        exact bodyPost_ret (v := .tuple #[zeroV, .int .i64 t.at', .int .i64 7]) (by simp [results, Tryz.results11, go_sem, cSs, r0, r1, r2, r3, r4, r5, r6, zeroV]) rfl (pars_zeroD (x := (t.at', 7)) HPE.out HT4.out.bel (by have := HQ.out; omega) _ _ _ _ _ _ _)
      ·rw [hb] at cB
       have HPE := Lib.hid (HRM.out.trans (if_pos (by rw [hb])))
       clear HRM hb
       go_wp2_with fail
       refine (cB _).mono ?_
       rintro e w9 ⟨rfl, rfl⟩
       have HT5 := Lib.hid (HT4.out.keeps (j := i + 1) ((Keep.refl P W4).set 1 (.int .i64 ((i : Int) + 1))) (by rw [show ((i + 1 : Nat) : Int) = (i : Int) + 1 by omega]; exact HT4.out.par.set1 _))
       have HN5 := Lib.hid HT5.out.par.cells.2.1
       go_wp2
       go_roundw
       case rel => exact ⟨i + 1, g, r, rfl, hlt, by omega, HPE.out, HT5.out⟩
       case measure => rw [M1.out, HN5.out]; simp [intOf]; omega
   ·obtain rfl : i = l.length := by omega
    have hiz : ¬ (l.length : Int) < (l.length : Int) := by omega
    have hrel := HREL.out
    rw [List.getElem?_eq_none (Nat.le_refl _)] at hrel
    simp only at hrel
    have B9 := Lib.hid HT.out.bel
    obtain ⟨⟨r0, r1, r2, r3, r4, r5, r6⟩, g0, g1, g2, g3, g4, g5, g6⟩ := HT.out.res.seven
    cases r with
    | none =>
     have HPE := Lib.hid hrel
     clear hrel HREL
     generalize hq : w.heap.size = hs' at r0 r1 r2 r3 r4 r5 r6 g0 g1 g2 g3 g4 g5 g6 ⊢
     have HQ := Lib.hid hq
     clear hq
     go_wp2
     exact bodyPost_ret (v := .tuple #[zeroV, .int .i64 s.size, .int .i64 8]) (by simp [results, Tryz.results11, go_sem, cSs, r0, r1, r2, r3, r4, r5, r6, zeroV]) rfl (pars_zero (x := ((s.size : Int), 8)) HPE.out B9.out (by have := HQ.out; omega) _ _ _ _ _ _ _)
    | some n =>
     have HPE := Lib.hid hrel
     obtain ⟨pa, ca, pk, ck, hb, hn⟩ := HT.out.root
     have x0 := hb.cell 0
     have x1' := hb.cell 1
     have x2' := hb.cell 2
     have x3 := hb.cell 3
     have x4 := hb.cell 4
     have x5 := hb.cell 5
     have x6 := hb.cell 6
     simp only [List.getElem?_toArray, List.getElem?_cons_succ, List.getElem?_cons_zero] at x0 x1' x2' x3 x4 x5 x6
     have HN := Lib.hid hn
     clear hrel HREL hb hn
     generalize hq : w.heap.size = hs' at r0 r1 r2 r3 r4 r5 r6 g0 g1 g2 g3 g4 g5 g6 hRB ⊢
     have HQ := Lib.hid hq
     clear hq
     go_wp2
     exact bodyPost_ret (v := .tuple #[.agg #[.int .i64 n.kind, .string n.sp, .string n.nm, .slice pa n.al.length ca, .slice pk n.kids.length ck, .string n.tx, .int .i64 n.at'], .int .i64 s.size, .int .i64 0]) (by simp [results, Tryz.results11, go_sem, cSs, r0, r1, r2, r3, r4, r5, r6]) rfl (by rw [HPE.out]; exact ⟨_, rfl, (HN.out.go (Goes.keep (sevK2 hs' _ _ _ _ _ _ _ _) (by rw [← HQ.out]; simp)) : NodeIs (holes _ ([w.heap.size, P + 1, P] ++ X)) _ _).go (Goes.less (fun k hk => List.mem_append_right _ hk)), (sevK2 hs' _ _ _ _ _ _ _ _).below B9.out (by have := HQ.out; omega) B9.out.size⟩)
 ·have HB := Lib.hid (hbad hx2)
  have hxb : (x2 != 0) = true := by simpa using hx2
  have B9 := Lib.hid B1
  obtain ⟨⟨r0, r1, r2, r3, r4, r5, r6⟩, g0, g1, g2, g3, g4, g5, g6⟩ := R1.seven
  clear htop hbad R1 B1 hta2
  generalize hq : w.heap.size = hs' at r0 r1 r2 r3 r4 r5 r6 g0 g1 g2 g3 g4 g5 g6 ⊢
  have HQ := Lib.hid hq
  clear hq
  go_wp2
  exact bodyPost_ret (v := .tuple #[zeroV, .int .i64 x1, .int .i64 x2]) (by simp [results, Tryz.results11, go_sem, cSs, r0, r1, r2, r3, r4, r5, r6, zeroV]) rfl (pars_zero (x := (x1, x2)) HB.out B9.out (by have := HQ.out; omega) _ _ _ _ _ _ _)
theorem tref_Parse (s : ByteArray) (w : World) (hs : s.size ≤ 10000) : Calls Tryz.prog 11 #[.string s] w fun e w' => ParsIs w (parseP s) e w' :=
 (tref_ParseX [] s w hs (fun b hb => (by cases hb))).mono fun _ _ h => by
  obtain ⟨v, h1, h2, h3⟩ := h
  exact ⟨v, h1, h2.full, h3⟩
end
end Go.Proofs.YtppmoeidgefkpaaGreatDoor
