/- Packed from the texts NsIs. -/
import Derived.Test.YtoehcholbcchcaaDoorSNsMa
import Derived.Test.YtoehcholbcchcaaDoorSkF
section
namespace Go.Proofs.YtoehcholbcchcaaDoor
open Go.RowKit
structure Over (B : Nat) (x y : World) : Prop where
  bel : Below B x y
  froz : ∀ p, y.frozen? p = x.frozen? p
  keep : ∀ p v, x.cell? p = some v → (∀ s, v ≠ .string s) → y.cell? p = some v
  str : ∀ p s, x.cell? p = some (.string s) → ∃ t, y.cell? p = some (.string t)
theorem Over.refl (B : Nat) (x : World) : Over B x x := ⟨Below.refl _ _, fun _ => rfl, fun _ _ h _ => h, fun _ s h => ⟨s, h⟩⟩
theorem Over.put {B : Nat} {x y : World} (h : Over B x y) {p : Addr} {s t : ByteArray} (hp : x.cell? p = some (.string s)) (hq : y.cell? p = some (.string t)) (hB : B ≤ p.block) (u : ByteArray) : Over B x (y.setCell p (.string u)) := by
  refine ⟨h.bel.setCell hB _, fun q => (World.frozen?_setCell _ _ _ _).trans (h.froz q), fun q v hv hn => ?_, fun q r hr => ?_⟩
  · have hne : p ≠ q := fun e => by
      subst e
      rw [hp] at hv
      exact hn s (Option.some.inj hv).symm
    rw [World.cell?_setCell_other _ _ _ _ hne]
    exact h.keep q v hv hn
  · by_cases hpq : p = q
    · subst hpq
      exact ⟨_, World.cell?_setCell_same _ _ _ hq⟩
    · obtain ⟨t', h1⟩ := h.str q r hr
      rw [World.cell?_setCell_other _ _ _ _ hpq]
      exact ⟨t', h1⟩
theorem kids_got {w : World} {B : Nat} : ∀ (l : List NodeD) (xs : List Value), FreshKids w B l xs → ∀ i (h : i < l.length), ∃ v0 v1 v2 v3 v4 v5 v6, (xs[i * 7 + 3]? = some v3 ∧ xs[i * 7 + 5]? = some v5) ∧ FreshIs w B l[i] (.agg #[v0, v1, v2, v3, v4, v5, v6])
  | [], _, _, i, h => absurd h (Nat.not_lt_zero _)
  | k :: r, xs, hk, i, h => by
    rw [FreshKids] at hk
    obtain ⟨v0, v1, v2, v3, v4, v5, v6, ys, rfl, hn, hr⟩ := hk
    cases i with
    | zero => exact ⟨v0, v1, v2, v3, v4, v5, v6, ⟨rfl, rfl⟩, hn⟩
    | succ i =>
      obtain ⟨u0, u1, u2, u3, u4, u5, u6, ⟨h3, h5⟩, hi⟩ := kids_got r ys hr i (by simpa using h)
      refine ⟨u0, u1, u2, u3, u4, u5, u6, ⟨?_, ?_⟩, hi⟩
      · rw [show (i + 1) * 7 + 3 = (i * 7 + 3) + 1 + 1 + 1 + 1 + 1 + 1 + 1 by omega]; simpa using h3
      · rw [show (i + 1) * 7 + 5 = (i * 7 + 5) + 1 + 1 + 1 + 1 + 1 + 1 + 1 by omega]; simpa using h5
theorem fresh_got {w : World} {B : Nat} {n : NodeD} {pa : Option Addr} {ca : Nat} {pk : Option Addr} {ck : Nat} (h : FreshIs w B n (.agg #[.int .i64 n.kind, .string n.sp, .string n.nm, .slice pa n.al.length ca, .slice pk n.kids.length ck, .string n.tx, .int .i64 n.at'])) :
    (∀ i (hi : i < n.al.length), ∃ g, pa = some ⟨g, 0, none⟩ ∧ B ≤ g ∧ w.cell? ⟨g, i * 4 + 2, none⟩ = some (.string n.al[i].va) ∧ w.frozen? ⟨g, i * 4 + 2, none⟩ = false) ∧
    (∀ i (hi : i < n.kids.length), ∃ g qk qc, pk = some ⟨g, 0, none⟩ ∧ B ≤ g ∧ w.cell? ⟨g, i * 7 + 5, none⟩ = some (.string n.kids[i].tx) ∧ w.frozen? ⟨g, i * 7 + 5, none⟩ = false ∧ w.cell? ⟨g, i * 7 + 3, none⟩ = some (.slice qk n.kids[i].al.length qc) ∧
      ∀ j (hj : j < n.kids[i].al.length), ∃ g', qk = some ⟨g', 0, none⟩ ∧ B ≤ g' ∧ w.cell? ⟨g', j * 4 + 2, none⟩ = some (.string n.kids[i].al[j].va) ∧ w.frozen? ⟨g', j * 4 + 2, none⟩ = false) := by
  have top : ∀ (m : NodeD) (v : Value), FreshIs w B m v → ∃ va vk xs, v = .agg #[.int .i64 m.kind, .string m.sp, .string m.nm, va, vk, .string m.tx, .int .i64 m.at'] ∧ w.ownsRow B 43 4 va m.al.length (attrsCells m.al) ∧ w.ownsRow B 29 7 vk m.kids.length xs ∧ FreshKids w B m.kids xs := fun m v hm => by
    cases m
    rw [FreshIs] at hm
    exact hm
  obtain ⟨va, vk, xs, hv, hA, hK, hF⟩ := top n _ h
  simp only [Value.agg.injEq, Array.mk.injEq, List.cons.injEq, and_true, true_and] at hv
  obtain ⟨rfl, rfl⟩ := hv
  refine ⟨fun i hi => ?_, fun i hi => ?_⟩
  · obtain ⟨g, e, hB, hc, hf⟩ := row_cell hA (by omega)
    exact ⟨g, e, hB, hc _ _ (attrs_get n.al i hi), hf _⟩
  · obtain ⟨g, e, hB, hc, hf⟩ := row_cell hK (by omega)
    obtain ⟨v0, v1, v2, v3, v4, v5, v6, ⟨x3, x5⟩, hi'⟩ := kids_got n.kids xs hF i hi
    obtain ⟨wa, wk, ys, hv, hA2, hK2, hF2⟩ := top _ _ hi'
    simp only [Value.agg.injEq, Array.mk.injEq, List.cons.injEq, and_true] at hv
    obtain ⟨rfl, rfl, rfl, rfl, rfl, rfl, rfl⟩ := hv
    obtain ⟨qk, qc, rfl⟩ := row_val hA2
    refine ⟨g, qk, qc, e, hB, hc _ _ x5, hf _, hc _ _ x3, fun j hj => ?_⟩
    obtain ⟨g', e', hB', hc', hf'⟩ := row_cell hA2 (by omega)
    exact ⟨g', e', hB', hc' _ _ (attrs_get _ j hj), hf' _⟩
set_option maxRecDepth 100000 in
set_option maxHeartbeats 16000000 in
theorem walk_NsIsolated (s : ByteArray) (w : World) (hT : NsT w) : Calls Tryd.prog 7 #[.string s] w fun e w' => e = .returned (.bool true) ∧ Below w.heap.size w w' := by
  have cA : ∀ wx, NsT wx → _ := fun wx ht => la_alive wx ht
  have c1 : ∀ wx, _ := fun wx => la_parsed s wx
  by_cases hb : 3000 < s.size ∨ (parseP s).2.2 ≠ 0
  · rw [prs_no hb] at c1
    clear hb
    go_enter Tryd.func7, Tryd.ntmps7
    go_wp2_with fail
    refine (c1 _).mono ?_
    rintro e w2 ⟨v2, rfl, hn2, b2⟩
    obtain ⟨pa2, ca2, pk2, ck2, rfl⟩ : ∃ pa ca pk ck, v2 = .agg #[.int .i64 0, .string ⟨#[]⟩, .string ⟨#[]⟩, .slice pa 0 ca, .slice pk 0 ck, .string ⟨#[]⟩, .int .i64 0] := node_form hn2
    have b2' := ns_box b2 (.cells #[.int .i64 0, .string ⟨#[]⟩, .string ⟨#[]⟩, .slice pa2 0 ca2, .slice pk2 0 ck2, .string ⟨#[]⟩, .int .i64 0] 29)
    have cAl := cA _ (NsT_below hT b2')
    have HB2 := Lib.hid b2'
    clear b2 b2' hn2 c1
    go_wp2_with fail
    refine cAl.mono ?_
    rintro e w4 ⟨rfl, b4⟩
    have HB4 := Lib.hid (HB2.out.trans (b4.mono HB2.out.size))
    clear b4 cAl
    go_wp2
    exact bodyPost_ret (v := .bool true) (by simp [results, Tryd.results7, go_sem]) rfl ⟨rfl, HB4.out⟩
  · rw [prs_yes hb] at c1
    have hs : s.size ≤ 3000 := by omega
    obtain ⟨o1, o2, o3, o4⟩ := doc_ok s _ hs rfl
    have hwt := (parse_small s (by omega)).2.2
    clear hb hs
    generalize (parseP s).1 = n at *
    have hrw := res_wt [] n
    have e1 : ∀ v wx, NodeIs wx n v → NsT wx → _ := fun v wx hn ht => ns_Resolve n v wx hn ht o1 o2 o3 o4
    obtain ⟨R, hR⟩ : ∃ R, resP [] n = R := ⟨_, rfl⟩
    rw [hR] at e1 hrw
    have cE := fun wx v u h h' => tref_Equal true n.wt n n v u wx (Nat.le_refl _) (by omega) h h'
    rw [eqB_refl] at cE
    have HCE := Lib.hid cE
    obtain ⟨y, x1, x2⟩ := R
    simp only at hrw
    have hyw := wt_eq y
    have hyk := wts_len y.kids
    have hal : y.al.length ≤ 10000000 := by omega
    have hkl : y.kids.length ≤ 10000000 := by omega
    have HKA := Lib.hid (show ∀ i (h : i < y.kids.length), y.kids[i].al.length ≤ 10000000 from fun i h => by
      have h1 := wts_mem y.kids _ (List.getElem_mem h)
      have h2 := wt_eq y.kids[i]
      omega)
    clear hR o1 o2 o3 o4 hwt hrw cE hyw hyk
    go_enter Tryd.func7, Tryd.ntmps7
    go_wp2_with fail
    refine (c1 _).mono ?_
    rintro e w1 ⟨v1, rfl, hn1, b1⟩
    obtain ⟨pa1, ca1, pk1, ck1, rfl⟩ := node_form hn1
    simp only at hn1
    have X1 := BX.new hn1
    have b1' := ns_box b1 (.cells #[.int .i64 n.kind, .string n.sp, .string n.nm, .slice pa1 n.al.length ca1, .slice pk1 n.kids.length ck1, .string n.tx, .int .i64 n.at'] 29)
    have HX1 := Lib.hid X1
    have HB1 := Lib.hid b1'
    clear X1 b1' hn1 b1
    go_wp2_with fail
    refine (c1 _).mono ?_
    rintro e w2 ⟨v2, rfl, hn2, b2⟩
    obtain ⟨pa2, ca2, pk2, ck2, rfl⟩ := node_form hn2
    simp only at hn2
    have X2 := BX.new hn2
    have b2' := ns_box b2 (.cells #[.int .i64 n.kind, .string n.sp, .string n.nm, .slice pa2 n.al.length ca2, .slice pk2 n.kids.length ck2, .string n.tx, .int .i64 n.at'] 29)
    have X1 := HX1.out.below b2'
    have B2 := HB1.out.trans (b2'.mono HB1.out.size)
    obtain ⟨d0, d1, d2, d3, d4, d5, d6⟩ := X1.cells
    have cR := e1 _ _ X1.2 (NsT_below hT B2)
    obtain ⟨W2, hW2⟩ : ∃ W2, W2 = w2.alloc (.cells #[.int .i64 n.kind, .string n.sp, .string n.nm, .slice pa2 n.al.length ca2, .slice pk2 n.kids.length ck2, .string n.tx, .int .i64 n.at'] 29) := ⟨_, rfl⟩
    rw [← hW2] at X1 X2 B2 cR d0 d1 d2 d3 d4 d5 d6
    have HX1 := Lib.hid X1
    have HX2 := Lib.hid X2
    have HB2 := Lib.hid B2
    clear X1 X2 B2 b2' hn2 b2 c1 e1 HB1
    go_upto_region 5 with fail
    simp only [← hW2]
    clear hW2
    go_wp2_with fail
    refine cR.mono ?_
    rintro e w3 ⟨v3, rfl, F3, b3⟩
    simp only at F3
    obtain ⟨qa, da, qk, dk, rfl⟩ := fresh_val F3
    obtain ⟨W3, hW3⟩ : ∃ W3, W3 = w3.alloc (.cells #[.int .i64 y.kind, .string y.sp, .string y.nm, .slice qa y.al.length da, .slice qk y.kids.length dk, .string y.tx, .int .i64 y.at'] 29) := ⟨_, rfl⟩
    have b3' : Below W2.heap.size W2 W3 := by rw [hW3]; exact ns_box b3 _
    have D1 : Blk W3 w3.heap.size #[.int .i64 y.kind, .string y.sp, .string y.nm, .slice qa y.al.length da, .slice qk y.kids.length dk, .string y.tx, .int .i64 y.at'] 29 := by rw [hW3]; exact Blk.new w3 #[.int .i64 y.kind, .string y.sp, .string y.nm, .slice qa y.al.length da, .slice qk y.kids.length dk, .string y.tx, .int .i64 y.at'] 29
    have F4 : FreshIs W3 W2.heap.size y (.agg #[.int .i64 y.kind, .string y.sp, .string y.nm, .slice qa y.al.length da, .slice qk y.kids.length dk, .string y.tx, .int .i64 y.at']) := FreshIs.below (by rw [hW3]; exact (Below.refl _ _).alloc (Nat.le_refl _) _) (Nat.le_refl _) _ _ F3
    obtain ⟨hAl, hKl⟩ := fresh_got F4
    have HAL := Lib.hid hAl
    have HKL := Lib.hid hKl
    have HB3 := Lib.hid b3'
    have g3 := D1.cell 3
    have g4 := D1.cell 4
    simp only [List.getElem?_toArray, List.getElem?_cons_succ, List.getElem?_cons_zero] at g3 g4
    clear F3 F4 D1 b3 b3' cR d0 d1 d2 d3 d4 d5 d6 hAl hKl
    go_upto_region 6 with fail
    simp only [← hW3]
    clear hW3
    generalize w3.heap.size = hb at g3 g4 ⊢
    have G3 := Lib.hid g3
    have G4 := Lib.hid g4
    go_wp2
    go_loopw [35] (fun q wr => ∃ i : Nat, i ≤ y.al.length ∧ q = .int .i64 i ∧ Over W2.heap.size W3 wr) (fun q _ => y.al.length - (intOf q).toNat)
    case atStart => exact ⟨0, Nat.zero_le _, rfl, Over.refl _ _⟩
    case round =>
      clear g3 g4
      obtain ⟨i, hi, rfl, hG⟩ := hrel
      obtain ⟨wo, rfl⟩ : ∃ wo, wo = wr := ⟨_, rfl⟩
      have k3 := hG.keep _ _ G3.out (fun s h => by cases h)
      have k4 := hG.keep _ _ G4.out (fun s h => by cases h)
      by_cases hlt : i < y.al.length
      case pos =>
        have hiz : (i : Int) < (y.al.length : Int) := by omega
        have hi0 : (0 : Int) ≤ (i : Int) := by omega
        obtain ⟨g, rfl, hB, hc, hf⟩ := HAL.out i hlt
        obtain ⟨t, ht1⟩ := hG.str _ _ hc
        have hf' := (hG.froz ⟨g, i * 4 + 2, none⟩).trans hf
        have hG2 := Lib.hid (hG.put hc ht1 hB ⟨#[63]⟩)
        clear hG hc hf k4
        go_wp2
        go_roundw
        case rel => exact ⟨i + 1, by omega, by go_num, hG2.out⟩
        case measure => simp [intOf]; omega
      case neg =>
        have hiz : ¬ (y.al.length : Int) < (y.al.length : Int) := by omega
        obtain rfl : i = y.al.length := by omega
        have hG' := Lib.hid hG
        clear hG
        go_wp2
        go_loopw [47] (fun q wr => ∃ i : Nat, i ≤ y.kids.length ∧ q = .int .i64 i ∧ Over W2.heap.size W3 wr) (fun q _ => y.kids.length - (intOf q).toNat)
        case atStart => exact ⟨0, Nat.zero_le _, rfl, hG'.out⟩
        case round =>
          clear k3 k4 hG'
          obtain ⟨i, hi, rfl, hG⟩ := hrel
          obtain ⟨wp, rfl⟩ : ∃ wp, wp = wr := ⟨_, rfl⟩
          have k4 := hG.keep _ _ G4.out (fun s h => by cases h)
          by_cases hlk : i < y.kids.length
          case pos =>
            have hiz : (i : Int) < (y.kids.length : Int) := by omega
            have hi0 : (0 : Int) ≤ (i : Int) := by omega
            obtain ⟨g, rk, rc, rfl, hB, hc, hf, hsl, hjs⟩ := HKL.out i hlk
            obtain ⟨t, ht1⟩ := hG.str _ _ hc
            have hf' := (hG.froz ⟨g, i * 7 + 5, none⟩).trans hf
            have hkk := HKA.out i hlk
            have hG2 := hG.put hc ht1 hB ⟨#[63]⟩
            obtain ⟨wq, hwq⟩ : ∃ wq, wq = wp.setCell ⟨g, i * 7 + 5, none⟩ (.string ⟨#[63]⟩) := ⟨_, rfl⟩
            rw [← hwq] at hG2
            have k4' := hG2.keep _ _ G4.out (fun s h => by cases h)
            have hsl' := hG2.keep _ _ hsl (fun s h => by cases h)
            obtain ⟨Z, hZ⟩ : ∃ Z, y.kids[i] = Z := ⟨_, rfl⟩
            have hjs2 : ∀ j (_ : j < Z.al.length), ∃ g', rk = some ⟨g', 0, none⟩ ∧ W2.heap.size ≤ g' ∧ W3.cell? ⟨g', j * 4 + 2, none⟩ = some (.string Z.al[j].va) ∧ W3.frozen? ⟨g', j * 4 + 2, none⟩ = false := by subst hZ; exact hjs
            rw [hZ] at hsl hsl' hkk
            have HJS := Lib.hid hjs2
            have HG2 := Lib.hid hG2
            have HSL := Lib.hid hsl
            clear hG hG2 hc hf hjs hjs2 hsl hZ
            go_upto_region 15 with fail
            simp only [← hwq]
            clear hwq k4 hf' ht1
            go_wp2
            go_loopw [62] (fun q wr => ∃ j : Nat, j ≤ Z.al.length ∧ q = .int .i64 j ∧ Over W2.heap.size W3 wr) (fun q _ => Z.al.length - (intOf q).toNat)
            case atStart => exact ⟨0, Nat.zero_le _, rfl, HG2.out⟩
            case round =>
              clear k4' hsl'
              obtain ⟨j, hj, rfl, hG⟩ := hrel
              obtain ⟨wi, rfl⟩ : ∃ wi, wi = wr := ⟨_, rfl⟩
              have k4 := hG.keep _ _ G4.out (fun s h => by cases h)
              have hsw := hG.keep _ _ HSL.out (fun s h => by cases h)
              by_cases hlj : j < Z.al.length
              case pos =>
                have hjz : (j : Int) < (Z.al.length : Int) := by omega
                have hj0 : (0 : Int) ≤ (j : Int) := by omega
                obtain ⟨g', rfl, hB', hc', hf'⟩ := HJS.out j hlj
                obtain ⟨t', ht1'⟩ := hG.str _ _ hc'
                have hfz := (hG.froz ⟨g', j * 4 + 2, none⟩).trans hf'
                have hG3 := Lib.hid (hG.put hc' ht1' hB' ⟨#[63]⟩)
                clear hG hc' hf'
                go_wp2
                go_roundw
                case rel => exact ⟨j + 1, by omega, by go_num, hG3.out⟩
                case measure => simp [intOf]; omega
              case neg =>
                obtain rfl : j = Z.al.length := by omega
                have hjz : ¬ (Z.al.length : Int) < (Z.al.length : Int) := by omega
                have hG3 := Lib.hid hG
                clear hG k4 hsw
                go_wp2
                go_roundw
                case rel => exact ⟨i + 1, by omega, by go_num, hG3.out⟩
                case measure => simp [intOf]; omega
          case neg =>
            obtain rfl : i = y.kids.length := by omega
            have hiz : ¬ (y.kids.length : Int) < (y.kids.length : Int) := by omega
            have bW := HB3.out.trans (hG.bel)
            have X1 := HX1.out.below bW
            have X2 := HX2.out.below bW
            have bw := HB2.out.trans (bW.mono HB2.out.size)
            have cAl := cA _ (NsT_below hT bw)
            have HX1' := Lib.hid X1
            have HX2' := Lib.hid X2
            have HBw := Lib.hid bw
            clear hG X1 X2 bW bw k4 HX1 HX2 HB2 HB3 HAL HKL HKA G3 G4 cA
            go_wp2_with fail
            refine cAl.mono ?_
            rintro e w9 ⟨rfl, b9⟩
            have X1 := HX1'.out.below b9
            have X2 := HX2'.out.below b9
            have B9 := HBw.out.trans (b9.mono HBw.out.size)
            have cQ := HCE.out _ _ _ X1.2 X2.2
            obtain ⟨d0, d1, d2, d3, d4, d5, d6⟩ := X1.cells
            obtain ⟨q0, q1, q2, q3, q4, q5, q6⟩ := X2.cells
            have HB9 := Lib.hid B9
            clear X1 X2 B9 b9 HBw HX1' HX2' cAl HCE
            go_wp2_with fail
            refine cQ.mono ?_
            rintro e w6 ⟨rfl, b6⟩
            have HB6 := Lib.hid (HB9.out.trans (b6.mono HB9.out.size))
            clear b6 HB9 cQ d0 d1 d2 d3 d4 d5 d6 q0 q1 q2 q3 q4 q5 q6
            go_wp2
            exact bodyPost_ret (v := .bool true) (by simp [results, Tryd.results7, go_sem]) rfl ⟨rfl, HB6.out⟩
end Go.Proofs.YtoehcholbcchcaaDoor
end
