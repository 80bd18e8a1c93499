/- Packed from the texts JvH. -/
import Derived.Test.YtdooadalkbghgaaDoorVJvF
section
namespace Go.Proofs.YtdooadalkbghgaaDoor
open Go.RowKit
set_option maxRecDepth 100000 in
set_option maxHeartbeats 32000000 in
theorem jeq_main_true (f : Nat) (IH0 : JqC true f) : JqM true f := by
    intro O hO w k1 b1 n1 s1 a1 a2 items jtems mems nems p q p' q' c d c' d' R hR hq5 h6 h7 hkm hmm hkl hal hA hK hB hL
    have HKM := Lib.hid hkm
    have HMM := Lib.hid hmm
    have H6 := Lib.hid h6
    have H7 := Lib.hid h7
    have HE := Lib.hid hR
    have HOO := Lib.hid hO
    have IH : ∀ (n m : ValD) (v u : Value) (w : World), n.cnt ≤ f → n.cnt ≤ 100000000 → ValIs w n v → ValIs w m u → Calls Tryd.prog 15 #[v, u, .bool true] w fun e w' => e = .returned (.bool (n.eqB O m)) ∧ Below w.heap.size w w' := fun n m v u w a b c d => by rw [hO]; exact IH0 n m v u w a b c d
    have hbw : Below w.heap.size w ((w.alloc (.cells #[.int .i64 k1, .bool b1, .int .i64 n1, .string s1, .slice p items.length c, .slice q mems.length d, .int .i64 a1] 25)).alloc (.cells #[.int .i64 k1, .bool b1, .int .i64 n1, .string s1, .slice p' items.length c', .slice q' mems.length d', .int .i64 a2] 25)) := ((Below.refl _ _).alloc (Nat.le_refl _) _).alloc (by simp) _
    have f14 : ((w.alloc (.cells #[.int .i64 k1, .bool b1, .int .i64 n1, .string s1, .slice p items.length c, .slice q mems.length d, .int .i64 a1] 25)).alloc (.cells #[.int .i64 k1, .bool b1, .int .i64 n1, .string s1, .slice p' items.length c', .slice q' mems.length d', .int .i64 a2] 25)).cell? ⟨w.heap.size, 4, none⟩ = some (.slice p items.length c) := by simp
    have f24 : ((w.alloc (.cells #[.int .i64 k1, .bool b1, .int .i64 n1, .string s1, .slice p items.length c, .slice q mems.length d, .int .i64 a1] 25)).alloc (.cells #[.int .i64 k1, .bool b1, .int .i64 n1, .string s1, .slice p' items.length c', .slice q' mems.length d', .int .i64 a2] 25)).cell? ⟨w.heap.size + 1, 4, none⟩ = some (.slice p' items.length c') := by simp
    have f15 : ((w.alloc (.cells #[.int .i64 k1, .bool b1, .int .i64 n1, .string s1, .slice p items.length c, .slice q mems.length d, .int .i64 a1] 25)).alloc (.cells #[.int .i64 k1, .bool b1, .int .i64 n1, .string s1, .slice p' items.length c', .slice q' mems.length d', .int .i64 a2] 25)).cell? ⟨w.heap.size, 5, none⟩ = some (.slice q mems.length d) := by simp
    have f25 : ((w.alloc (.cells #[.int .i64 k1, .bool b1, .int .i64 n1, .string s1, .slice p items.length c, .slice q mems.length d, .int .i64 a1] 25)).alloc (.cells #[.int .i64 k1, .bool b1, .int .i64 n1, .string s1, .slice p' items.length c', .slice q' mems.length d', .int .i64 a2] 25)).cell? ⟨w.heap.size + 1, 5, none⟩ = some (.slice q' mems.length d') := by simp
    have hz0 : ((w.alloc (.cells #[.int .i64 k1, .bool b1, .int .i64 n1, .string s1, .slice p items.length c, .slice q mems.length d, .int .i64 a1] 25)).alloc (.cells #[.int .i64 k1, .bool b1, .int .i64 n1, .string s1, .slice p' items.length c', .slice q' mems.length d', .int .i64 a2] 25)).heap.size = w.heap.size + 2 := by simp
    have q5 := hq5 rfl
    clear hO hR h6 h7 hkm hmm hq5 IH0
    go_enter Tryd.func15, Tryd.ntmps15
    go_wp2
    generalize ((w.alloc (.cells #[.int .i64 k1, .bool b1, .int .i64 n1, .string s1, .slice p items.length c, .slice q mems.length d, .int .i64 a1] 25)).alloc (.cells #[.int .i64 k1, .bool b1, .int .i64 n1, .string s1, .slice p' items.length c', .slice q' mems.length d', .int .i64 a2] 25)) = W at *
    go_loopw [7] (fun x wr => ∃ i : Nat, i ≤ items.length ∧ x = .int .i64 i ∧ vsEq O items jtems = vsEq O (items.drop i) (jtems.drop i) ∧ Below (w.heap.size + 2) W wr) (fun x _ => items.length - (intOf x).toNat)
    case atStart => exact ⟨0, Nat.zero_le _, rfl, rfl, Below.refl _ _⟩
    case round =>
      obtain ⟨i, hi, rfl, hrel, hbel⟩ := hrel
      obtain ⟨wo, rfl⟩ : ∃ wo, wo = wr := ⟨_, rfl⟩
      have hzo : w.heap.size + 2 ≤ wo.heap.size := by have := hbel.size; omega
      have hbo : Below w.heap.size w wo := hbw.trans (hbel.mono (by omega))
      by_cases hlt : i < items.length
      case pos =>
        have g14 := (hbel.drew.cell (p := ⟨w.heap.size, 4, none⟩) (by show w.heap.size < _; omega)).trans f14
        have g14w := (hbel.cell (p := ⟨w.heap.size, 4, none⟩) (by show w.heap.size < _; omega)).trans f14
        have g24 := (hbel.drew.cell (p := ⟨w.heap.size + 1, 4, none⟩) (by show w.heap.size + 1 < _; omega)).trans f24
        have hiz : (i : Int) < (items.length : Int) := by omega
        have hltm : i < jtems.length := by have := H6.out; omega
        have hbd : Below w.heap.size w wo.drew := hbo.drew
        obtain ⟨a, v0, v1, v2, v3, v4, v5, v6, rfl, ⟨x0, x1, x2, x3, x4, x5, x6⟩, hk⟩ := ItemsAt.get items 0 (hA.below hbd) i hlt
        obtain ⟨b, u0, u1, u2, u3, u4, u5, u6, rfl, ⟨y0, y1, y2, y3, y4, y5, y6⟩, hl⟩ := ItemsAt.get jtems 0 (hB.below hbd) i hltm
        rw [Nat.zero_add] at x0 x1 x2 x3 x4 x5 x6 y0 y1 y2 y3 y4 y5 y6
        rw [vsEq_drop O items jtems i hlt hltm] at hrel
        have hmem : items[i] ∈ items := List.getElem_mem _
        have c1 := IH items[i] jtems[i] _ _ wo.drew (HKM.out _ hmem).1 (HKM.out _ hmem).2 hk hl
        obtain ⟨r, hr⟩ : ∃ r, ValD.eqB O items[i] jtems[i] = r := ⟨_, rfl⟩
        rw [hr] at c1 hrel
        obtain ⟨cc, hcc⟩ : ∃ c, a.add (i * 7) = c := ⟨_, rfl⟩
        obtain ⟨dd, hdd⟩ : ∃ c, b.add (i * 7) = c := ⟨_, rfl⟩
        rw [hcc] at x0 x1 x2 x3 x4 x5 x6
        rw [hdd] at y0 y1 y2 y3 y4 y5 y6
        simp only [Addr.add, Nat.reduceEqDiff, ↓reduceIte] at x1 x2 x3 x4 x5 x6 y1 y2 y3 y4 y5 y6
        have HR := Lib.hid hrel
        have kS : ∀ w5, Below wo.drew.heap.size wo.drew w5 → (w5.cell? ⟨w.heap.size, 4, none⟩ = some (.slice (some a) items.length c) ∧ w5.cell? ⟨w.heap.size + 1, 4, none⟩ = some (.slice (some b) items.length c')) ∧ (w5.cell? cc = some v0 ∧ w5.cell? ⟨cc.block, cc.off + 1, none⟩ = some v1 ∧ w5.cell? ⟨cc.block, cc.off + 2, none⟩ = some v2 ∧ w5.cell? ⟨cc.block, cc.off + 3, none⟩ = some v3 ∧ w5.cell? ⟨cc.block, cc.off + 4, none⟩ = some v4 ∧ w5.cell? ⟨cc.block, cc.off + 5, none⟩ = some v5 ∧ w5.cell? ⟨cc.block, cc.off + 6, none⟩ = some v6) ∧ (w5.cell? dd = some u0 ∧ w5.cell? ⟨dd.block, dd.off + 1, none⟩ = some u1 ∧ w5.cell? ⟨dd.block, dd.off + 2, none⟩ = some u2 ∧ w5.cell? ⟨dd.block, dd.off + 3, none⟩ = some u3 ∧ w5.cell? ⟨dd.block, dd.off + 4, none⟩ = some u4 ∧ w5.cell? ⟨dd.block, dd.off + 5, none⟩ = some u5 ∧ w5.cell? ⟨dd.block, dd.off + 6, none⟩ = some u6) := fun w5 bb => ⟨⟨(bb.cell (vblock_lt g14)).trans g14, (bb.cell (vblock_lt g24)).trans g24⟩, ⟨(bb.cell (vblock_lt x0)).trans x0, (bb.cell (vblock_lt x1)).trans x1, (bb.cell (vblock_lt x2)).trans x2, (bb.cell (vblock_lt x3)).trans x3, (bb.cell (vblock_lt x4)).trans x4, (bb.cell (vblock_lt x5)).trans x5, (bb.cell (vblock_lt x6)).trans x6⟩, ⟨(bb.cell (vblock_lt y0)).trans y0, (bb.cell (vblock_lt y1)).trans y1, (bb.cell (vblock_lt y2)).trans y2, (bb.cell (vblock_lt y3)).trans y3, (bb.cell (vblock_lt y4)).trans y4, (bb.cell (vblock_lt y5)).trans y5, (bb.cell (vblock_lt y6)).trans y6⟩⟩
        clear hrel hr hk hl hA hB hK hL hmem IH HKM f14 f24 f15 f25 hbo hbd
        go_wp2
        go_region_held3 (fun w' => (w'.cell? ⟨w.heap.size, 4, none⟩ = some (.slice (some a) items.length c) ∧ w'.cell? ⟨w.heap.size + 1, 4, none⟩ = some (.slice (some b) items.length c')) ∧ (w'.cell? cc = some v0 ∧ w'.cell? ⟨cc.block, cc.off + 1, none⟩ = some v1 ∧ w'.cell? ⟨cc.block, cc.off + 2, none⟩ = some v2 ∧ w'.cell? ⟨cc.block, cc.off + 3, none⟩ = some v3 ∧ w'.cell? ⟨cc.block, cc.off + 4, none⟩ = some v4 ∧ w'.cell? ⟨cc.block, cc.off + 5, none⟩ = some v5 ∧ w'.cell? ⟨cc.block, cc.off + 6, none⟩ = some v6) ∧ (w'.cell? dd = some u0 ∧ w'.cell? ⟨dd.block, dd.off + 1, none⟩ = some u1 ∧ w'.cell? ⟨dd.block, dd.off + 2, none⟩ = some u2 ∧ w'.cell? ⟨dd.block, dd.off + 3, none⟩ = some u3 ∧ w'.cell? ⟨dd.block, dd.off + 4, none⟩ = some u4 ∧ w'.cell? ⟨dd.block, dd.off + 5, none⟩ = some u5 ∧ w'.cell? ⟨dd.block, dd.off + 6, none⟩ = some u6)) (first | exact ⟨⟨g14, g24⟩, ⟨x0, x1, x2, x3, x4, x5, x6⟩, ⟨y0, y1, y2, y3, y4, y5, y6⟩⟩ | exact hS5) (first | (go_at_call 15; refine c1.mono ?_; rintro e w5 ⟨rfl, b5'⟩; have hS5 := kS w5 b5'))
        have hb5 : Below (w.heap.size + 2) W w5 := hbel.drew.trans (b5'.mono hzo)
        have hbw5 : Below w.heap.size w w5 := hbw.trans (hb5.mono (by omega))
        clear kS hS5 c1 g14 g24 x0 x1 x2 x3 x4 x5 x6 y0 y1 y2 y3 y4 y5 y6
        rcases r with _ | _
        · have HX := Lib.hid (show R = false by rw [HE.out, HR.out]; rfl)
          go_wp2
          go_ret
          exact ⟨jtrB (by rw [HX.out]), hbw5⟩
        · have HX := Lib.hid (HR.out.trans (Bool.true_and _))
          go_wp2
          go_roundw
          case rel => exact ⟨i + 1, by omega, by go_num, HX.out, hb5⟩
          case measure => simp [intOf]; omega
      case neg =>
        obtain rfl : i = items.length := by omega
        have HX := Lib.hid (show R = msEq O mems nems by rw [HE.out, hrel, List.drop_eq_nil_of_le (Nat.le_refl _), vsEq, Bool.true_and])
        have hiz : ¬ (items.length : Int) < (items.length : Int) := by omega
        have g14 := (hbel.cell (p := ⟨w.heap.size, 4, none⟩) (by show w.heap.size < _; omega)).trans f14
        clear hrel hA hB
        go_wp2
        go_loopw [8] (fun x wr => ∃ j : Nat, j ≤ mems.length ∧ x = .int .i64 j ∧ R = msEq O (mems.drop j) (nems.drop j) ∧ Below (w.heap.size + 2) W wr) (fun x _ => mems.length - (intOf x).toNat)
        case atStart => exact ⟨0, Nat.zero_le _, rfl, HX.out, hbel⟩
        case round =>
          obtain ⟨j, hj, rfl, hrl, hbl⟩ := hrel
          obtain ⟨wi, rfl⟩ : ∃ wi, wi = wr := ⟨_, rfl⟩
          have hzi : w.heap.size + 2 ≤ wi.heap.size := by have := hbl.size; omega
          have hbi : Below w.heap.size w wi := hbw.trans (hbl.mono (by omega))
          have g15 := (hbl.cell (p := ⟨w.heap.size, 5, none⟩) (by show w.heap.size < _; omega)).trans f15
          have g25 := (hbl.cell (p := ⟨w.heap.size + 1, 5, none⟩) (by show w.heap.size + 1 < _; omega)).trans f25
          by_cases hjl : j < mems.length
          case pos =>
            have hjz : (j : Int) < (mems.length : Int) := by omega
            have hjm : j < nems.length := by have := H7.out; omega
            obtain ⟨a, v0, v1, v2, v3, v4, v5, v6, rfl, ⟨z0, x0, x1, x2, x3, x4, x5, x6, z8⟩, hk⟩ := MemsAt.get mems 0 (hK.below hbi) j hjl
            obtain ⟨b, u0, u1, u2, u3, u4, u5, u6, rfl, ⟨t0, y0, y1, y2, y3, y4, y5, y6, t8⟩, hl⟩ := MemsAt.get nems 0 (hL.below hbi) j hjm
            rw [Nat.zero_add] at x0 x1 x2 x3 x4 x5 x6 y0 y1 y2 y3 y4 y5 y6 z0 z8 t0 t8
            rw [msEq_drop O mems nems j hjl hjm] at hrl
            have hmem : mems[j] ∈ mems := List.getElem_mem _
            obtain ⟨hm1, hm2⟩ := HMM.out _ hmem
            obtain ⟨M, hM⟩ : ∃ M, mems[j] = M := ⟨_, rfl⟩
            obtain ⟨N, hN⟩ : ∃ N, nems[j] = N := ⟨_, rfl⟩
            rw [hM] at z0 z8 hk hrl hm1 hm2
            rw [hN] at t0 t8 hl hrl
            rw [meq_eq] at hrl
            obtain ⟨e1, e2, e3, e4, hve, -, -⟩ := (val_is wi M.v _).1 hk
            simp only [Value.agg.injEq, Array.mk.injEq, List.cons.injEq, and_true] at hve
            obtain ⟨rfl, rfl, rfl, rfl, rfl, rfl, rfl⟩ := hve
            obtain ⟨o1, o2, o3, o4, hue, -, -⟩ := (val_is wi N.v _).1 hl
            simp only [Value.agg.injEq, Array.mk.injEq, List.cons.injEq, and_true] at hue
            obtain ⟨rfl, rfl, rfl, rfl, rfl, rfl, rfl⟩ := hue
            have c1 : ∀ o1 o2 : Obj, _ := fun o1 o2 => IH M.v N.v _ _ ((wi.alloc o1).alloc o2) hm1 hm2 (hk.below (((Below.refl wi.heap.size wi).alloc (Nat.le_refl _) o1).alloc (by simp) o2)) (hl.below (((Below.refl wi.heap.size wi).alloc (Nat.le_refl _) o1).alloc (by simp) o2))
            clear hk hl
            obtain ⟨r, hr⟩ : ∃ r, ValD.eqB O M.v N.v = r := ⟨_, rfl⟩
            rw [hr] at c1 hrl
            generalize M.key = ky at *
            generalize M.at' = ka at *
            generalize M.v.kind = p0 at *
            generalize M.v.b = p1 at *
            generalize M.v.n = p2 at *
            generalize M.v.s = p3 at *
            generalize M.v.items.length = p4 at *
            generalize M.v.mems.length = p5 at *
            generalize M.v.at' = p6 at *
            generalize N.key = ly at *
            generalize N.at' = la at *
            generalize N.v.kind = q0 at *
            generalize N.v.b = q1 at *
            generalize N.v.n = q2 at *
            generalize N.v.s = q3 at *
            generalize N.v.items.length = q4 at *
            generalize N.v.mems.length = q5n at *
            generalize N.v.at' = q6 at *
            obtain ⟨cc, hcc⟩ : ∃ c, a.add (j * 9) = c := ⟨_, rfl⟩
            obtain ⟨dd, hdd⟩ : ∃ c, b.add (j * 9) = c := ⟨_, rfl⟩
            rw [hcc] at z0 x0 x1 x2 x3 x4 x5 x6 z8
            rw [hdd] at t0 y0 y1 y2 y3 y4 y5 y6 t8
            simp only [Addr.add, Nat.reduceEqDiff, ↓reduceIte] at x0 x1 x2 x3 x4 x5 x6 y0 y1 y2 y3 y4 y5 y6 z8 t8
            have HR := Lib.hid hrl
            have wq : ∀ (o : Obj) {c : Addr} {v : Value}, wi.cell? c = some v → (wi.alloc o).cell? c = some v := fun o c v h => (((Below.refl wi.heap.size wi).alloc (Nat.le_refl _) o).cell (vblock_lt h)).trans h
            have l0 := fun o => wq o t0
            have l1 := fun o => wq o y0
            have l2 := fun o => wq o y1
            have l3 := fun o => wq o y2
            have l4 := fun o => wq o y3
            have l5 := fun o => wq o y4
            have l6 := fun o => wq o y5
            have l7 := fun o => wq o y6
            have l8 := fun o => wq o t8
            have l9 := fun o => wq o g25
            clear hrl hr hM hN hmem hm1 hm2 hK hL IH HKM HMM f14 f24 f15 f25 wq
            have hb2 : ∀ o1 o2 : Obj, Below w.heap.size w ((wi.alloc o1).alloc o2) := fun o1 o2 => (hbi.alloc (by omega) _).alloc (by simp; omega) _
            have hb3 : ∀ o1 o2 : Obj, Below (w.heap.size + 2) W ((wi.alloc o1).alloc o2) := fun o1 o2 => (hbl.alloc hzi _).alloc (by simp; omega) _
            by_cases ek : ky = ly
            case neg =>
              have HX2 := Lib.hid (show R = false by rw [HR.out, decide_eq_false (fun x => ek x.1)]; rfl)
              have p1' := jstr_ne ek
              have p2' := jstr_ne2 ek
              have p3' := jstr_ne3 ek
              clear ek HR c1
              go_wp2
              go_ret
              exact ⟨jtrB (by rw [HX2.out]), hb2 _ _⟩
            subst ek
            by_cases ea : ka = la
            case neg =>
              have HX2 := Lib.hid (show R = false by rw [HR.out, decide_eq_false (fun x => ea (x.2 HOO.out))]; rfl)
              have p1' : (ka != la) = true := by simpa using ea
              clear ea HR c1
              go_wp2
              go_ret
              exact ⟨jtrB (by rw [HX2.out]), hb2 _ _⟩
            have ea' : (ka != la) = false := by simp [ea]
            have HQ := Lib.hid (show R = (r && msEq O (mems.drop (j + 1)) (nems.drop (j + 1))) by rw [HR.out, decide_eq_true ⟨rfl, fun _ => ea⟩, Bool.true_and])
            clear HR ea
            have HBb := Lib.hid hb3
            clear hb3 hb2
            go_wp2_with fail
            refine (c1 _ _).mono ?_
            rintro e w5 ⟨rfl, b5'⟩
            have hb5 : Below (w.heap.size + 2) W w5 := (HBb.out _ _).trans (b5'.mono (by simp; omega))
            have hbw5 : Below w.heap.size w w5 := hbw.trans (hb5.mono (by omega))
            clear c1
            rcases r with _ | _
            · have HX3 := Lib.hid (show R = false by rw [HQ.out]; rfl)
              go_wp2
              go_ret
              exact ⟨jtrB (by rw [HX3.out]), hbw5⟩
            · have HX3 := Lib.hid (HQ.out.trans (Bool.true_and _))
              go_wp2
              go_roundw
              case rel => exact ⟨j + 1, by omega, by go_num, HX3.out, hb5⟩
              case measure => simp [intOf]; omega
          case neg =>
            obtain rfl : j = mems.length := by omega
            have HX2 := Lib.hid (show R = true by rw [hrl, List.drop_eq_nil_of_le (Nat.le_refl _), msEq])
            have hjz : ¬ (mems.length : Int) < (mems.length : Int) := by omega
            clear hrl hK hL
            go_wp2
            go_ret
            exact ⟨jtrB (by rw [HX2.out]), hbi⟩
theorem jref_Equal : ∀ (off : Bool) (f : Nat), JqC off f
  | _, 0 => fun n _ _ _ _ hf _ _ _ => absurd hf (by have := vcnt_eq n; omega)
  | false, f + 1 => jeq_heads false f (jeq_main_false f (jref_Equal false f))
  | true, f + 1 => jeq_heads true f (jeq_main_true f (jref_Equal true f))
end Go.Proofs.YtdooadalkbghgaaDoor
end
