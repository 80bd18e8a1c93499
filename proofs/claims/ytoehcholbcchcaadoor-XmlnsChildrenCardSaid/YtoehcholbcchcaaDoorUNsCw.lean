/- Packed from the texts NsCw. -/
import Derived.Test.YtoehcholbcchcaaDoorUNsCh
import Derived.Test.YtoehcholbcchcaaDoorUkF
import Derived.Test.YtoehcholbcchcaaDoorUkK
import Derived.Deep.RegionHeld3
section
namespace Go.Proofs.YtoehcholbcchcaaDoor
open Go.RowKit
theorem kid_cells {w : World} {p : Option Addr} {l : List NodeD} (h : KidsAt w p 0 l) (i : Nat) (hi : i < l.length) : ∃ a xa xc xk xd, p = some a ∧ (w.cell? (a.add (i * 7)) = some (.int .i64 l[i].kind) ∧ w.cell? ((a.add (i * 7)).add 1) = some (.string l[i].sp) ∧ w.cell? ((a.add (i * 7)).add 2) = some (.string l[i].nm) ∧ w.cell? ((a.add (i * 7)).add 3) = some (.slice xa l[i].al.length xc) ∧ w.cell? ((a.add (i * 7)).add 4) = some (.slice xk l[i].kids.length xd) ∧ w.cell? ((a.add (i * 7)).add 5) = some (.string l[i].tx) ∧ w.cell? ((a.add (i * 7)).add 6) = some (.int .i64 l[i].at')) ∧ NodeIs w l[i] (.agg #[.int .i64 l[i].kind, .string l[i].sp, .string l[i].nm, .slice xa l[i].al.length xc, .slice xk l[i].kids.length xd, .string l[i].tx, .int .i64 l[i].at']) := by
  obtain ⟨a, v0, v1, v2, v3, v4, v5, v6, hp, hq, hn⟩ := KidsAt.get l 0 h i hi
  rw [Nat.zero_add] at hq
  obtain ⟨xa, xc, xk, xd, hv⟩ := node_form hn
  simp only [Value.agg.injEq, Array.mk.injEq, List.cons.injEq, and_true] at hv
  obtain ⟨rfl, rfl, rfl, rfl, rfl, rfl, rfl⟩ := hv
  exact ⟨a, xa, xc, xk, xd, hp, hq, hn⟩
theorem chP_wt {s m : ByteArray} : ∀ (l : List NodeD), ∀ k ∈ chP s m l, k.wt ≤ wts l := fun l k hk => wts_mem l k (List.mem_filter.1 hk).1
theorem chP_len {s m : ByteArray} (l : List NodeD) : (chP s m l).length ≤ l.length := List.length_filter_le _ _
def C7 (b : Nat) (n : NodeD) (pa : Option Addr) (ca : Nat) (pk : Option Addr) (ck : Nat) (w : World) : Prop := w.cell? ⟨b, 0, none⟩ = some (.int .i64 n.kind) ∧ w.cell? ⟨b, 1, none⟩ = some (.string n.sp) ∧ w.cell? ⟨b, 2, none⟩ = some (.string n.nm) ∧ w.cell? ⟨b, 3, none⟩ = some (.slice pa n.al.length ca) ∧ w.cell? ⟨b, 4, none⟩ = some (.slice pk n.kids.length ck) ∧ w.cell? ⟨b, 5, none⟩ = some (.string n.tx) ∧ w.cell? ⟨b, 6, none⟩ = some (.int .i64 n.at')
set_option maxRecDepth 100000 in
set_option maxHeartbeats 32000000 in
theorem walk_NsChildren (n : NodeD) (pa : Option Addr) (ca : Nat) (pk : Option Addr) (ck : Nat) (s m : ByteArray) (w : World) (hT : NsT w) (hn : NodeIs w n (.agg #[.int .i64 n.kind, .string n.sp, .string n.nm, .slice pa n.al.length ca, .slice pk n.kids.length ck, .string n.tx, .int .i64 n.at'])) (hW : n.WF) :
    Calls Tryd.prog 8 #[.agg #[.int .i64 n.kind, .string n.sp, .string n.nm, .slice pa n.al.length ca, .slice pk n.kids.length ck, .string n.tx, .int .i64 n.at'], .string s, .string m] w fun e w' => e = .returned (.bool true) ∧ Below w.heap.size w w' := by
  have cA : ∀ wx, NsT wx → _ := fun wx ht => la_alive wx ht
  have b1 := ns_box (Below.refl w.heap.size w) (.cells #[.int .i64 n.kind, .string n.sp, .string n.nm, .slice pa n.al.length ca, .slice pk n.kids.length ck, .string n.tx, .int .i64 n.at'] 29)
  have X1 := BX.new hn
  obtain ⟨W, hWW⟩ : ∃ W, W = w.alloc (.cells #[.int .i64 n.kind, .string n.sp, .string n.nm, .slice pa n.al.length ca, .slice pk n.kids.length ck, .string n.tx, .int .i64 n.at'] 29) := ⟨_, rfl⟩
  rw [← hWW] at b1 X1
  have cL := law_TooLarge n _ W hW X1.2
  obtain ⟨f0, f1, f2, f3, f4, f5, f6⟩ := X1.cells
  have HX1 := Lib.hid X1
  have HB1 := Lib.hid b1
  clear hn b1 X1
  by_cases h1 : 5000 < n.wgt 0
  · rw [decide_eq_true h1, show oneIf true = 1 from rfl] at cL
    clear h1 HX1
    go_enter Tryd.func8, Tryd.ntmps8
    go_upto_region 1 with fail
    simp only [← hWW]
    clear hWW
    go_wp2_with fail
    refine cL.mono ?_
    rintro e w3 ⟨rfl, b3⟩
    have HB3 := Lib.hid (HB1.out.trans (b3.mono HB1.out.size))
    have cAl := cA _ (NsT_below hT HB3.out)
    clear b3 cL f0 f1 f2 f3 f4 f5 f6
    go_wp2_with fail
    refine cAl.mono ?_
    rintro e w4 ⟨rfl, b4⟩
    have HB4 := Lib.hid (HB3.out.trans (b4.mono HB3.out.size))
    clear b4 cAl
    go_wp2
    exact bodyPost_ret (v := .bool true) (by simp [results, Tryd.results8, go_sem]) rfl ⟨rfl, HB4.out⟩
  · rw [decide_eq_false h1, show oneIf false = 0 from rfl] at cL
    obtain ⟨sn, -⟩ := not_large h1
    have hsp := wt_split n
    have hwe := wt_eq n
    have hwl := wts_len n.kids
    have cC : ∀ v wx, NodeIs wx n v → _ := fun v wx h => ns_Children n v s m wx h (by omega) (by omega)
    have cR : ∀ v wx, NodeIs wx n v → _ := fun v wx h => nref_Children n v s m wx h (by omega)
    have cT : ∀ v wx, NodeIs wx n v → _ := fun v wx h => ns_Attr n v s m wx h (by omega)
    have cU : ∀ v wx, NodeIs wx n v → _ := fun v wx h => nref_Attr n v s m wx h (by omega)
    obtain ⟨l, hl⟩ : ∃ l, chP s m n.kids = l := ⟨_, rfl⟩
    have hll : l.length ≤ 5000 := by have := chP_len (s := s) (m := m) n.kids; rw [hl] at this; omega
    have HLW := Lib.hid (show ∀ k ∈ l, k.wt ≤ 5000 from fun k hk => by rw [← hl] at hk; have := chP_wt n.kids k hk; omega)
    obtain ⟨r, hr⟩ : ∃ r, atP s m n.al = r := ⟨_, rfl⟩
    rw [hl] at cC cR
    rw [hr] at cT cU
    have HC := Lib.hid (And.intro cC (And.intro cR (And.intro cT (And.intro cU cA))))
    clear h1 sn hsp hwe hwl hl hr cC cR cT cU cA
    go_enter Tryd.func8, Tryd.ntmps8
    go_upto_region 1 with fail
    simp only [← hWW]
    clear hWW
    go_wp2_with fail
    refine cL.mono ?_
    rintro e w3 ⟨rfl, b3⟩
    have X3 := HX1.out.below b3
    obtain ⟨d0, d1, d2, d3, d4, d5, d6⟩ := X3.cells
    have hn3 := NodeIs.below (Below.drew (Below.refl w3.heap.size w3)) _ _ X3.2
    have HX3 := Lib.hid X3
    have HB3 := Lib.hid (HB1.out.trans (b3.mono HB1.out.size))
    have cC := (HC.out.1) _ w3.drew hn3
    have cR := (HC.out.2.1) _ w3.drew hn3
    have hSb : ∀ w', Below w3.heap.size w3 w' → (w'.cell? ⟨w.heap.size, 0, none⟩ = some (.int .i64 n.kind) ∧ w'.cell? ⟨w.heap.size, 1, none⟩ = some (.string n.sp) ∧ w'.cell? ⟨w.heap.size, 2, none⟩ = some (.string n.nm) ∧ w'.cell? ⟨w.heap.size, 3, none⟩ = some (.slice pa n.al.length ca) ∧ w'.cell? ⟨w.heap.size, 4, none⟩ = some (.slice pk n.kids.length ck) ∧ w'.cell? ⟨w.heap.size, 5, none⟩ = some (.string n.tx) ∧ w'.cell? ⟨w.heap.size, 6, none⟩ = some (.int .i64 n.at')) := fun w' hb => (HX3.out.below hb).cells
    have hS0 := hSb w3.drew (Below.drew (Below.refl _ _))
    have HSB := Lib.hid hSb
    clear b3 X3 hn3 cL f0 f1 f2 f3 f4 f5 f6 HX1 HB1 hSb
    go_wp2
    go_region_held3 (fun w' => w'.cell? ⟨w.heap.size, 0, none⟩ = some (.int .i64 n.kind) ∧ w'.cell? ⟨w.heap.size, 1, none⟩ = some (.string n.sp) ∧ w'.cell? ⟨w.heap.size, 2, none⟩ = some (.string n.nm) ∧ w'.cell? ⟨w.heap.size, 3, none⟩ = some (.slice pa n.al.length ca) ∧ w'.cell? ⟨w.heap.size, 4, none⟩ = some (.slice pk n.kids.length ck) ∧ w'.cell? ⟨w.heap.size, 5, none⟩ = some (.string n.tx) ∧ w'.cell? ⟨w.heap.size, 6, none⟩ = some (.int .i64 n.at')) (first | with_reducible exact hS5 | with_reducible exact hS4 | with_reducible exact hS0) (first
      | (go_at_call 19; refine cR4.mono ?_; rintro e w5 ⟨p5, c5, rfl, K5, b5⟩; have hS5 := HSB.out w5 ((Below.drew (Below.refl w3.heap.size w3)).trans ((b4.trans (b5.mono b4.size)))))
      | (go_at_call 18; refine cC4.mono ?_; rintro e w5 ⟨p5, c5, rfl, K5, b5⟩; have hS5 := HSB.out w5 ((Below.drew (Below.refl w3.heap.size w3)).trans ((b4.trans (b5.mono b4.size)))))
      | (go_at_call 18; refine cC.mono ?_; rintro e w4 ⟨p4, c4, rfl, K4, b4⟩; have hS4 := HSB.out w4 ((Below.drew (Below.refl w3.heap.size w3)).trans b4); have cR4 := (HC.out.2.1) _ w4 (HX3.out.below ((Below.drew (Below.refl w3.heap.size w3)).trans b4)).2)
      | (go_at_call 19; refine cR.mono ?_; rintro e w4 ⟨p4, c4, rfl, K4, b4⟩; have hS4 := HSB.out w4 ((Below.drew (Below.refl w3.heap.size w3)).trans b4); have cC4 := (HC.out.1) _ w4 (HX3.out.below ((Below.drew (Below.refl w3.heap.size w3)).trans b4)).2))
    all_goals
      have B5 : Below w3.heap.size w3 w5 := (Below.drew (Below.refl w3.heap.size w3)).trans (b4.trans (b5.mono b4.size))
      have X5 := HX3.out.below B5
      have HK4 := Lib.hid (KidsAt.below b5 _ _ _ K4)
      have HK5 := Lib.hid K5
      have HX5 := Lib.hid X5
      have HB5 := Lib.hid (HB3.out.trans (B5.mono HB3.out.size))
      obtain ⟨cC, cR, cT, cU, cA⟩ := HC.out
      have cT5 := cT _ w5 X5.2
      obtain ⟨rv, hrv⟩ : ∃ rv, r.getD noB = rv := ⟨_, rfl⟩
      obtain ⟨rb, hrb⟩ : ∃ rb, r.isSome = rb := ⟨_, rfl⟩
      have HU : Hid (∀ v wx, NodeIs wx n v → Calls Tryd.prog 21 #[v, .string s, .string m] wx fun e w' => e = .returned (.tuple #[.string rv, .bool rb]) ∧ Below wx.heap.size wx w') := Lib.hid (fun v wx h => by have := cU v wx h; unfold AtR at this; rw [hrv, hrb] at this; exact this)
      have HA := Lib.hid cA
      unfold AtR at cT5
      rw [hrv, hrb] at cT5
      clear K4 K5 b4 b5 B5 X5 d0 d1 d2 d3 d4 d5 d6 hS0 hS4 hS5 cC cR cT cU cA cR4 hrv hrb HX3 HB3 HSB HC
      obtain ⟨d0, d1, d2, d3, d4, d5, d6⟩ := HX5.out.cells
      go_wp2_with fail
      refine cT5.mono ?_
      rintro e w6 ⟨rfl, b6⟩
      have X6 := HX5.out.below b6
      have cU6 := HU.out _ w6 X6.2
      have HK4' := Lib.hid (KidsAt.below b6 _ _ _ HK4.out)
      have HK5' := Lib.hid (KidsAt.below b6 _ _ _ HK5.out)
      have HB6 := Lib.hid (HB5.out.trans (b6.mono HB5.out.size))
      clear d0 d1 d2 d3 d4 d5 d6 b6 HK4 HK5 HX5 HB5 HU cT5
      obtain ⟨d0, d1, d2, d3, d4, d5, d6⟩ := X6.cells
      clear X6
      go_wp2_with fail
      refine cU6.mono ?_
      rintro e w7 ⟨rfl, b7⟩
      have HK4 := Lib.hid (KidsAt.below b7 _ _ _ HK4'.out)
      have HK5 := Lib.hid (KidsAt.below b7 _ _ _ HK5'.out)
      have HB7 := Lib.hid (HB6.out.trans (b7.mono HB6.out.size))
      clear d0 d1 d2 d3 d4 d5 d6 b7 HK4' HK5' HB6 cU6
      go_wp2
      go_loopw [57] (fun q wr => ∃ i : Nat, i ≤ l.length ∧ q = .int .i64 i ∧ Below w7.heap.size w7 wr) (fun q _ => l.length - (intOf q).toNat)
      case atStart => exact ⟨0, Nat.zero_le _, rfl, Below.refl _ _⟩
      case round =>
        obtain ⟨i, hi, rfl, hb⟩ := hrel
        by_cases hlt : i < l.length
        · have hiz : (i : Int) < (l.length : Int) := by omega
          have hi0 : (0 : Int) ≤ (i : Int) := by omega
          obtain ⟨a, xa, xc, xk, xd, rfl, ⟨a0, a1, a2, a3, a4, a5, a6⟩, hna⟩ := kid_cells (KidsAt.below hb _ _ _ HK4.out) i hlt
          obtain ⟨c, ya, yc, yk, yd, rfl, ⟨e0, e1, e2, e3, e4, e5, e6⟩, hnc⟩ := kid_cells (KidsAt.below hb _ _ _ HK5.out) i hlt
          have hkw := HLW.out l[i] (List.getElem_mem _)
          obtain ⟨k, hk⟩ : ∃ k, l[i] = k := ⟨_, rfl⟩
          rw [hk] at a0 a1 a2 a3 a4 a5 a6 e0 e1 e2 e3 e4 e5 e6 hna hnc hkw
          obtain ⟨cc, hcc⟩ : ∃ x, a.add (i * 7) = x := ⟨_, rfl⟩
          obtain ⟨dd, hdd⟩ : ∃ x, c.add (i * 7) = x := ⟨_, rfl⟩
          rw [hcc] at a0 a1 a2 a3 a4 a5 a6
          rw [hdd] at e0 e1 e2 e3 e4 e5 e6
          simp only [Addr.add, Nat.reduceEqDiff, ↓reduceIte] at a1 a2 a3 a4 a5 a6 e1 e2 e3 e4 e5 e6
          have cE := tref_Equal true k.wt k k _ _ wr.drew (Nat.le_refl _) (by omega) (NodeIs.below (Below.drew (Below.refl wr.heap.size wr)) _ _ hna) (NodeIs.below (Below.drew (Below.refl wr.heap.size wr)) _ _ hnc)
          rw [eqB_refl] at cE
          have hSB : ∀ w', Below wr.heap.size wr w' → (w'.cell? cc = some (.int .i64 k.kind) ∧ w'.cell? ⟨cc.block, cc.off + 1, none⟩ = some (.string k.sp) ∧ w'.cell? ⟨cc.block, cc.off + 2, none⟩ = some (.string k.nm) ∧ w'.cell? ⟨cc.block, cc.off + 3, none⟩ = some (.slice xa k.al.length xc) ∧ w'.cell? ⟨cc.block, cc.off + 4, none⟩ = some (.slice xk k.kids.length xd) ∧ w'.cell? ⟨cc.block, cc.off + 5, none⟩ = some (.string k.tx) ∧ w'.cell? ⟨cc.block, cc.off + 6, none⟩ = some (.int .i64 k.at') ∧ w'.cell? dd = some (.int .i64 k.kind) ∧ w'.cell? ⟨dd.block, dd.off + 1, none⟩ = some (.string k.sp) ∧ w'.cell? ⟨dd.block, dd.off + 2, none⟩ = some (.string k.nm) ∧ w'.cell? ⟨dd.block, dd.off + 3, none⟩ = some (.slice ya k.al.length yc) ∧ w'.cell? ⟨dd.block, dd.off + 4, none⟩ = some (.slice yk k.kids.length yd) ∧ w'.cell? ⟨dd.block, dd.off + 5, none⟩ = some (.string k.tx) ∧ w'.cell? ⟨dd.block, dd.off + 6, none⟩ = some (.int .i64 k.at')) := fun w' hb => ⟨(hb.cell (kblock_lt a0)).trans a0, (hb.cell (kblock_lt a1)).trans a1, (hb.cell (kblock_lt a2)).trans a2, (hb.cell (kblock_lt a3)).trans a3, (hb.cell (kblock_lt a4)).trans a4, (hb.cell (kblock_lt a5)).trans a5, (hb.cell (kblock_lt a6)).trans a6, (hb.cell (kblock_lt e0)).trans e0, (hb.cell (kblock_lt e1)).trans e1, (hb.cell (kblock_lt e2)).trans e2, (hb.cell (kblock_lt e3)).trans e3, (hb.cell (kblock_lt e4)).trans e4, (hb.cell (kblock_lt e5)).trans e5, (hb.cell (kblock_lt e6)).trans e6⟩
          have hS0 := hSB wr.drew (Below.drew (Below.refl _ _))
          have HSB := Lib.hid hSB
          have HBr := Lib.hid hb
          clear hSB hna hnc hk hb hkw
          go_wp2
          go_region_held3 (fun w' => w'.cell? cc = some (.int .i64 k.kind) ∧ w'.cell? ⟨cc.block, cc.off + 1, none⟩ = some (.string k.sp) ∧ w'.cell? ⟨cc.block, cc.off + 2, none⟩ = some (.string k.nm) ∧ w'.cell? ⟨cc.block, cc.off + 3, none⟩ = some (.slice xa k.al.length xc) ∧ w'.cell? ⟨cc.block, cc.off + 4, none⟩ = some (.slice xk k.kids.length xd) ∧ w'.cell? ⟨cc.block, cc.off + 5, none⟩ = some (.string k.tx) ∧ w'.cell? ⟨cc.block, cc.off + 6, none⟩ = some (.int .i64 k.at') ∧ w'.cell? dd = some (.int .i64 k.kind) ∧ w'.cell? ⟨dd.block, dd.off + 1, none⟩ = some (.string k.sp) ∧ w'.cell? ⟨dd.block, dd.off + 2, none⟩ = some (.string k.nm) ∧ w'.cell? ⟨dd.block, dd.off + 3, none⟩ = some (.slice ya k.al.length yc) ∧ w'.cell? ⟨dd.block, dd.off + 4, none⟩ = some (.slice yk k.kids.length yd) ∧ w'.cell? ⟨dd.block, dd.off + 5, none⟩ = some (.string k.tx) ∧ w'.cell? ⟨dd.block, dd.off + 6, none⟩ = some (.int .i64 k.at')) (first | with_reducible exact hS1 | with_reducible exact hS0) (first
            | (go_at_call 15; refine cE.mono ?_; rintro e w8 ⟨rfl, b8⟩; have hS1 := HSB.out w8 ((Below.drew (Below.refl wr.heap.size wr)).trans b8)))
          all_goals
            have HB8 := Lib.hid (HBr.out.trans (((Below.drew (Below.refl wr.heap.size wr)).trans b8).mono HBr.out.size))
            clear hS0 hS1 a0 a1 a2 a3 a4 a5 a6 e0 e1 e2 e3 e4 e5 e6 cE b8 HSB HBr
            go_wp2
            go_roundw
            case rel => exact ⟨i + 1, by omega, by go_num, HB8.out⟩
            case measure => simp [intOf]; omega
        · obtain rfl : i = l.length := by omega
          have hiz : ¬ (l.length : Int) < (l.length : Int) := by omega
          have HB8 := Lib.hid (HB7.out.trans (hb.mono HB7.out.size))
          have cAl := HA.out _ (NsT_below hT HB8.out)
          clear hb HB7 HK4 HK5 HA HLW
          go_wp2_with fail
          refine cAl.mono ?_
          rintro e w9 ⟨rfl, b9⟩
          have HB9 := Lib.hid (HB8.out.trans (b9.mono HB8.out.size))
          clear b9 cAl
          go_wp2
          exact bodyPost_ret (v := .bool true) (by simp [results, Tryd.results8, go_sem]) rfl ⟨rfl, HB9.out⟩
end Go.Proofs.YtoehcholbcchcaaDoor
end
