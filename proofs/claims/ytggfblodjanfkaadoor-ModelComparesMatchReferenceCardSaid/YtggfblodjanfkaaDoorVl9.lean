/- Packed from the texts MeB. -/
import Derived.Test.YtggfblodjanfkaaDoorVkZ
section
namespace Go.Proofs.YtggfblodjanfkaaDoor
open Go.RowKit
theorem mcell_alloc {w : World} {o : Obj} {a : Addr} {v : Value} (h : w.cell? a = some v) : (w.alloc o).cell? a = some v := mcell ((Below.refl _ _).alloc (Nat.le_refl _) _) h
set_option maxRecDepth 100000 in
set_option maxHeartbeats 4000000 in
theorem mc_equalS (l m : List ByteArray) (p : Option Addr) (c : Nat) (q : Option Addr) (d : Nat) (w : World) (hl : NamAt w p l) (hm : NamAt w q m) (h1 : l.length ≤ 100000000) :
    Calls Tryd.prog 47 #[.slice p l.length c, .slice q m.length d] w fun e w' => e = .returned (.bool (decide (l = m))) ∧ Below w.heap.size w w' := by
  obtain ⟨R, hR⟩ : ∃ R, decide (l = m) = R := ⟨_, rfl⟩
  rw [hR]
  have h1z : (l.length : Int) ≤ 100000000 := by omega
  have HL := Lib.hid hl
  have HM := Lib.hid hm
  clear hl hm
  by_cases hk : l.length = m.length
  case neg =>
    have hkz : ¬ (l.length : Int) = (m.length : Int) := by omega
    have HR := Lib.hid (show R = false by rw [← hR]; exact decide_eq_false fun e => hk (by rw [e]))
    clear hR hk
    go_enter Tryd.func47, Tryd.ntmps47
    go_wp2
    go_ret
    exact ⟨mretB HR.out.symm, Below.refl _ _⟩
  have hkz : (l.length : Int) = (m.length : Int) := by omega
  have HK := Lib.hid hk
  have HR := Lib.hid (show R = decide (l.drop 0 = m.drop 0) from hR.symm)
  rw [← hk]
  clear hk hR hkz
  go_enter Tryd.func47, Tryd.ntmps47
  go_wp2
  go_loopw [13] (fun v wr => ∃ i : Nat, i ≤ l.length ∧ v = .int .i64 (i : Int) ∧ R = decide (l.drop i = m.drop i) ∧ Below w.heap.size w wr) (fun v _ => l.length - (RowKit.intOf v).toNat)
  case atStart => exact ⟨0, Nat.zero_le _, rfl, HR.out, Below.refl _ _⟩
  case round =>
    clear HR
    obtain ⟨i, hi, rfl, hR, hb⟩ := hrel
    by_cases hlt : i < l.length
    · have hiz : (i : Int) < (l.length : Int) := by omega
      have hlt2 : i < m.length := by have := HK.out; omega
      obtain ⟨a, rfl, ca⟩ := HL.out.below hb i hlt
      obtain ⟨b, rfl, cb⟩ := HM.out.below hb i hlt2
      rw [List.drop_eq_getElem_cons hlt, List.drop_eq_getElem_cons hlt2] at hR
      obtain ⟨x, hx⟩ : ∃ x, l[i] = x := ⟨_, rfl⟩
      obtain ⟨y, hy⟩ : ∃ y, m[i] = y := ⟨_, rfl⟩
      rw [hx] at ca hR
      rw [hy] at cb hR
      clear hx hy
      obtain ⟨aa, haa⟩ : ∃ aa, a.add i = aa := ⟨_, rfl⟩
      obtain ⟨bb, hbb⟩ : ∃ bb, b.add i = bb := ⟨_, rfl⟩
      rw [haa] at ca
      rw [hbb] at cb
      have HB := Lib.hid hb
      by_cases hxy : x = y
      · subst hxy
        have HRR := Lib.hid (show R = decide (l.drop (i + 1) = m.drop (i + 1)) by rw [hR]; simp)
        clear hR hb
        go_wp2
        go_quiet (fail)
        go_wp2
        go_roundw
        case rel => exact ⟨i + 1, by omega, by go_num, HRR.out, mdrewN HB.out _⟩
        case measure => simp [RowKit.intOf]; omega
      · obtain ⟨ne1, ne2⟩ := mstr_ne hxy
        have HRR := Lib.hid (show R = false by rw [hR]; exact decide_eq_false fun e => hxy (by injection e))
        clear hR hb hxy
        go_wp2
        go_quiet (fail)
        go_wp2
        go_ret
        exact ⟨mretB HRR.out.symm, mdrewN HB.out _⟩
    · obtain rfl : i = l.length := by omega
      have hiz : ¬ (l.length : Int) < (l.length : Int) := by omega
      have HRR := Lib.hid (show R = true by rw [hR, List.drop_length, List.drop_eq_nil_of_le (by have := HK.out; omega)]; exact decide_eq_true rfl)
      have HB := Lib.hid hb
      clear hb hR
      go_wp2
      go_ret
      exact ⟨mretB HRR.out.symm, HB.out⟩
set_option maxRecDepth 100000 in
set_option maxHeartbeats 4000000 in
theorem mc_equalE (l m : List EntD) (p : Option Addr) (c : Nat) (q : Option Addr) (d : Nat) (w : World) (hl : EntsAt w p l) (hm : EntsAt w q m) (h1 : l.length ≤ 100000000) :
    Calls Tryd.prog 48 #[.slice p l.length c, .slice q m.length d] w fun e w' => e = .returned (.bool (decide (l.length = m.length) && eqEs l m)) ∧ Below w.heap.size w w' := by
  obtain ⟨R, hR⟩ : ∃ R, (decide (l.length = m.length) && eqEs l m) = R := ⟨_, rfl⟩
  rw [hR]
  have h1z : (l.length : Int) ≤ 100000000 := by omega
  have HL := Lib.hid hl
  have HM := Lib.hid hm
  clear hl hm
  by_cases hk : l.length = m.length
  case neg =>
    have hkz : ¬ (l.length : Int) = (m.length : Int) := by omega
    have HR := Lib.hid (show R = false by rw [← hR, decide_eq_false hk]; rfl)
    clear hR hk
    go_enter Tryd.func48, Tryd.ntmps48
    go_wp2
    go_ret
    exact ⟨mretB HR.out.symm, Below.refl _ _⟩
  have hkz : (l.length : Int) = (m.length : Int) := by omega
  have HK := Lib.hid hk
  have HR := Lib.hid (show R = eqEs (l.drop 0) (m.drop 0) by rw [← hR, decide_eq_true hk]; rfl)
  rw [← hk]
  clear hk hR hkz
  go_enter Tryd.func48, Tryd.ntmps48
  go_wp2
  go_loopw [13] (fun v wr => ∃ i : Nat, i ≤ l.length ∧ v = .int .i64 (i : Int) ∧ R = eqEs (l.drop i) (m.drop i) ∧ Below w.heap.size w wr) (fun v _ => l.length - (RowKit.intOf v).toNat)
  case atStart => exact ⟨0, Nat.zero_le _, rfl, HR.out, Below.refl _ _⟩
  case round =>
    clear HR
    obtain ⟨i, hi, rfl, hR, hb⟩ := hrel
    by_cases hlt : i < l.length
    · have hiz : (i : Int) < (l.length : Int) := by omega
      have hlt2 : i < m.length := by have := HK.out; omega
      obtain ⟨a, rfl, a0, a1, a2, a3, a4⟩ := HL.out.below hb i hlt
      obtain ⟨b, rfl, b0, b1, b2, b3, b4⟩ := HM.out.below hb i hlt2
      rw [List.drop_eq_getElem_cons hlt, List.drop_eq_getElem_cons hlt2, eqEs] at hR
      obtain ⟨x, hx⟩ : ∃ x, l[i] = x := ⟨_, rfl⟩
      obtain ⟨y, hy⟩ : ∃ y, m[i] = y := ⟨_, rfl⟩
      rw [hx] at a0 a1 a2 a3 a4 hR
      rw [hy] at b0 b1 b2 b3 b4 hR
      clear hx hy
      obtain ⟨aa, haa⟩ : ∃ aa, a.add (i * 5) = aa := ⟨_, rfl⟩
      obtain ⟨bb, hbb⟩ : ∃ bb, b.add (i * 5) = bb := ⟨_, rfl⟩
      rw [haa] at a0 a1 a2 a3 a4
      rw [hbb] at b0 b1 b2 b3 b4
      simp only [Addr.add, Nat.reduceEqDiff, ↓reduceIte] at a1 a2 a3 a4 b1 b2 b3 b4
      have hN := fun wx => ment_neq x y wx
      unfold EntV at hN
      obtain ⟨q, hq⟩ : ∃ q, eqE x y = q := ⟨_, rfl⟩
      rw [hq] at hN hR
      have HRR := Lib.hid hR
      have HB := Lib.hid hb
      clear hR hb hq
      cases q
      · go_wp2
        go_quiet (fail)
        go_wp2
        go_ret
        exact ⟨mretB (by rw [HRR.out]; rfl), mdrewN HB.out _⟩
      · go_wp2
        go_quiet (fail)
        go_wp2
        go_roundw
        case rel => exact ⟨i + 1, by omega, by go_num, by rw [HRR.out]; rfl, mdrewN HB.out _⟩
        case measure => simp [RowKit.intOf]; omega
    · obtain rfl : i = l.length := by omega
      have hiz : ¬ (l.length : Int) < (l.length : Int) := by omega
      rw [List.drop_length] at hR
      have HRR := Lib.hid (show R = true by rw [hR]; rfl)
      have HB := Lib.hid hb
      clear hb hR
      go_wp2
      go_ret
      exact ⟨mretB HRR.out.symm, HB.out⟩
theorem sameB_code (f g : FeedD) : sameB f g = ((f.id.toList == g.id.toList) && ((f.title.toList == g.title.toList) && ((f.link.toList == g.link.toList) && (decide (f.upd = g.upd) && (decide (f.path = g.path) && (decide (f.ents.length = g.ents.length) && eqEs f.ents g.ents)))))) := by
  unfold sameB
  have hp : decide (cmpP f.path g.path = 0) = decide (f.path = g.path) := by
    by_cases h : f.path = g.path
    · rw [decide_eq_true h, decide_eq_true ((cmpP_zero _ _).2 h)]
    · rw [decide_eq_false h, decide_eq_false fun e => h ((cmpP_zero _ _).1 e)]
  have hu : (f.upd == g.upd) = decide (f.upd = g.upd) := by
    by_cases h : f.upd = g.upd
    · rw [decide_eq_true h, beq_iff_eq.2 h]
    · rw [decide_eq_false h, beq_eq_false_iff_ne.2 h]
  rw [hp, hu]
  generalize (f.id.toList == g.id.toList) = a
  generalize (f.title.toList == g.title.toList) = b
  generalize (f.link.toList == g.link.toList) = c
  generalize decide (f.upd = g.upd) = d
  generalize decide (f.path = g.path) = e
  generalize (decide (f.ents.length = g.ents.length) && eqEs f.ents g.ents) = h
  cases a <;> cases b <;> cases c <;> cases d <;> cases e <;> cases h <;> rfl
set_option maxRecDepth 100000 in
set_option maxHeartbeats 4000000 in
theorem mc_equalFeeds (f g : FeedD) (v u : Value) (w : World) (hf : FeedIs w f v) (hg : FeedIs w g u) (h1 : f.path.length ≤ 100000000) (h3 : f.ents.length ≤ 100000000) : Calls Tryd.prog 32 #[v, u] w fun e w' => e = .returned (.bool (sameB f g)) ∧ Below w.heap.size w w' := by
  obtain ⟨p1, c1, q1, d1, rfl, hp1, he1⟩ := hf
  obtain ⟨p2, c2, q2, d2, rfl, hp2, he2⟩ := hg
  obtain ⟨W2, hW2⟩ : ∃ W2, W2 = (w.alloc (.cells #[.slice p1 f.path.length c1, .string f.id, .string f.title, .string f.link, .int .i64 f.upd, .slice q1 f.ents.length d1] 25)).alloc (.cells #[.slice p2 g.path.length c2, .string g.id, .string g.title, .string g.link, .int .i64 g.upd, .slice q2 g.ents.length d2] 25) := ⟨_, rfl⟩
  have b2 : Below w.heap.size w W2 := by rw [hW2]; exact ((Below.refl _ _).alloc (Nat.le_refl _) _).alloc (by simp) _
  obtain ⟨X1, X2⟩ : FBox W2 w.heap.size f p1 c1 q1 d1 ∧ FBox W2 (w.heap.size + 1) g p2 c2 q2 d2 := by rw [hW2]; exact FBox.both w f g p1 c1 q1 d1 p2 c2 q2 d2
  have cP := mc_equalS f.path g.path p1 c1 p2 c2 W2 (hp1.below b2) (hp2.below b2) h1
  have cE := fun wx (hb : Below W2.heap.size W2 wx) => mc_equalE f.ents g.ents q1 d1 q2 d2 wx ((he1.below b2).below hb) ((he2.below b2).below hb) h3
  have HE := Lib.hid cE
  have HB := Lib.hid b2
  obtain ⟨e0, e1, e2, e3, e4, e5⟩ := id X1
  obtain ⟨f0, f1, f2, f3, f4, f5⟩ := id X2
  have HX1 := Lib.hid X1
  have HX2 := Lib.hid X2
  obtain ⟨R, hR⟩ : ∃ R, sameB f g = R := ⟨_, rfl⟩
  rw [hR]
  rw [sameB_code] at hR
  obtain ⟨x1, y1⟩ : ∃ x, (f.id.toList == g.id.toList) = x := ⟨_, rfl⟩
  obtain ⟨x2, y2⟩ : ∃ x, (f.title.toList == g.title.toList) = x := ⟨_, rfl⟩
  obtain ⟨x3, y3⟩ : ∃ x, (f.link.toList == g.link.toList) = x := ⟨_, rfl⟩
  rw [y1, y2, y3] at hR
  generalize decide (f.path = g.path) = P at *
  have HR := Lib.hid hR
  clear hR hp1 hp2 he1 he2 b2 X1 X2 cE
  go_enter Tryd.func32, Tryd.ntmps32
  go_upto_region 1 with fail
  simp only [← hW2]
  clear hW2
  cases x1
  · have n1 : ¬ f.id.toList = g.id.toList := beq_eq_false_iff_ne.1 y1
    go_wp2
    go_ret
    exact ⟨mretB (by rw [← HR.out]; simp), HB.out⟩
  have m1 : f.id.toList = g.id.toList := eq_of_beq y1
  cases x2
  · have n2 : ¬ f.title.toList = g.title.toList := beq_eq_false_iff_ne.1 y2
    go_wp2
    go_ret
    exact ⟨mretB (by rw [← HR.out]; simp), HB.out⟩
  have m2 : f.title.toList = g.title.toList := eq_of_beq y2
  cases x3
  · have n3 : ¬ f.link.toList = g.link.toList := beq_eq_false_iff_ne.1 y3
    go_wp2
    go_ret
    exact ⟨mretB (by rw [← HR.out]; simp), HB.out⟩
  have m3 : f.link.toList = g.link.toList := eq_of_beq y3
  by_cases hu : f.upd = g.upd
  case neg =>
    go_wp2
    go_ret
    exact ⟨mretB (by rw [← HR.out]; simp [hu]), HB.out⟩
  go_wp2_with fail
  refine cP.mono ?_
  rintro e w3 ⟨rfl, b3⟩
  have cE := HE.out w3 b3
  generalize (decide (f.ents.length = g.ents.length) && eqEs f.ents g.ents) = E at *
  replace HX1 := Lib.hid (HX1.out.below b3)
  replace HX2 := Lib.hid (HX2.out.below b3)
  replace HB := Lib.hid (HB.out.trans (b3.mono HB.out.size))
  have HRR := Lib.hid (show R = (P && E) by rw [← HR.out, decide_eq_true hu]; rfl)
  clear e0 e1 e2 e3 e4 e5 f0 f1 f2 f3 f4 f5 b3 cP HR HE
  obtain ⟨e0, e1, e2, e3, e4, e5⟩ := id HX1.out
  obtain ⟨f0, f1, f2, f3, f4, f5⟩ := id HX2.out
  cases P
  · go_wp2
    go_ret
    exact ⟨mretB HRR.out.symm, HB.out⟩
  · go_wp2_with fail
    refine cE.mono ?_
    rintro e w4 ⟨rfl, b4⟩
    replace HB := Lib.hid (HB.out.trans (b4.mono HB.out.size))
    clear b4 cE
    go_wp2
    go_ret
    exact ⟨mretB HRR.out.symm, HB.out⟩
set_option maxRecDepth 100000 in
set_option maxHeartbeats 16000000 in
theorem mc_equalFunc (l m : List FeedD) (p q : Option Addr) (c d : Nat) (w : World) (hl : FeedsAt w p l) (hm : FeedsAt w q m) (hs : ∀ f ∈ l, f.path.length ≤ 100000000 ∧ f.ents.length ≤ 100000000) (hn : l.length ≤ 100000000) :
    Calls Tryd.prog 31 #[.slice p l.length c, .slice q m.length d, .func (.func 32) #[] #[]] w fun e w' => e = .returned (.bool (eqA l m)) ∧ Below w.heap.size w w' := by
  obtain ⟨R, hR⟩ : ∃ R, eqA l m = R := ⟨_, rfl⟩
  rw [hR]
  unfold eqA at hR
  have HL := Lib.hid hl
  have HM := Lib.hid hm
  have HS := Lib.hid hs
  have hnz : (l.length : Int) ≤ 100000000 := by omega
  clear hl hm hs
  by_cases hk : l.length = m.length
  case neg =>
    have hkz : ¬ (l.length : Int) = (m.length : Int) := by omega
    go_enter Tryd.func31, Tryd.ntmps31
    go_wp2
    go_ret
    exact ⟨mretB (by rw [← hR, decide_eq_false hk]; rfl), Below.refl _ _⟩
  rw [decide_eq_true hk, Bool.true_and] at hR
  have HRE := Lib.hid (show R = sameA (l.drop 0) (m.drop 0) from hR.symm)
  have HK := Lib.hid hk
  have hlb : ((l.length : Int) != (m.length : Int)) = false := by simp [hk]
  clear hR hk
  go_enter Tryd.func31, Tryd.ntmps31
  go_wp2
  go_loopw [17] (fun z wr => ∃ i : Nat, i ≤ l.length ∧ z = .int .i64 (i : Int) ∧ R = sameA (l.drop i) (m.drop i) ∧ Below w.heap.size w wr) (fun z _ => l.length - (RowKit.intOf z).toNat)
  case atStart => exact ⟨0, Nat.zero_le _, rfl, HRE.out, Below.refl _ _⟩
  case round =>
    clear HRE
    obtain ⟨i, hi, rfl, hR, hb⟩ := hrel
    have hzr := hb.size
    by_cases hlt : i < l.length
    · have hiz : (i : Int) < (l.length : Int) := by omega
      have hlt2 : i < m.length := by have := HK.out; omega
      have hiz2 : (i : Int) < (m.length : Int) := by omega
      obtain ⟨a, p1, c1, q1, d1, rfl, ⟨a0, a1, a2, a3, a4, a5⟩, hp1, he1⟩ := HL.out.below hb i hlt
      obtain ⟨b, p2, c2, q2, d2, rfl, ⟨b0, b1, b2, b3, b4, b5⟩, hp2, he2⟩ := HM.out.below hb i hlt2
      rw [List.drop_eq_getElem_cons hlt, List.drop_eq_getElem_cons hlt2, sameA] at hR
      obtain ⟨x, hx⟩ : ∃ x, l[i] = x := ⟨_, rfl⟩
      obtain ⟨y, hy⟩ : ∃ y, m[i] = y := ⟨_, rfl⟩
      have hxs := HS.out x (by rw [← hx]; exact List.getElem_mem _)
      rw [hx] at a0 a1 a2 a3 a4 a5 hp1 he1 hR
      rw [hy] at b0 b1 b2 b3 b4 b5 hp2 he2 hR
      clear hx hy
      obtain ⟨aa, haa⟩ : ∃ aa, a.add (i * 6) = aa := ⟨_, rfl⟩
      obtain ⟨bb, hbb⟩ : ∃ bb, b.add (i * 6) = bb := ⟨_, rfl⟩
      rw [haa] at a0 a1 a2 a3 a4 a5
      rw [hbb] at b0 b1 b2 b3 b4 b5
      simp only [Addr.add, Nat.reduceEqDiff, ↓reduceIte] at a1 a2 a3 a4 a5 b1 b2 b3 b4 b5
      obtain ⟨W2, hW2⟩ : ∃ W2, W2 = (wr.alloc (.cells #[.slice p1 x.path.length c1, .string x.id, .string x.title, .string x.link, .int .i64 x.upd, .slice q1 x.ents.length d1] 25)).alloc (.cells #[.slice p2 y.path.length c2, .string y.id, .string y.title, .string y.link, .int .i64 y.upd, .slice q2 y.ents.length d2] 25) := ⟨_, rfl⟩
      have b2' : Below wr.heap.size wr W2 := by rw [hW2]; exact ((Below.refl _ _).alloc (Nat.le_refl _) _).alloc (by simp) _
      have cS := mc_equalFeeds x y _ _ W2 ⟨p1, c1, q1, d1, rfl, hp1.below b2', he1.below b2'⟩ ⟨p2, c2, q2, d2, rfl, hp2.below b2', he2.below b2'⟩ hxs.1 hxs.2
      have cS := fun (wx : World) (hx : wx = W2) => (show Calls Tryd.prog 32 _ wx _ from hx ▸ cS)
      obtain ⟨r, hr⟩ : ∃ r, sameB x y = r := ⟨_, rfl⟩
      rw [hr] at cS hR
      have HRR := Lib.hid hR
      have HB2 := Lib.hid (hb.trans (b2'.mono hzr))
      have hz2 := b2'.size
      have e0 := mcell_alloc (o := .cells #[.slice p1 x.path.length c1, .string x.id, .string x.title, .string x.link, .int .i64 x.upd, .slice q1 x.ents.length d1] 25) b0
      have e1 := mcell_alloc (o := .cells #[.slice p1 x.path.length c1, .string x.id, .string x.title, .string x.link, .int .i64 x.upd, .slice q1 x.ents.length d1] 25) b1
      have e2 := mcell_alloc (o := .cells #[.slice p1 x.path.length c1, .string x.id, .string x.title, .string x.link, .int .i64 x.upd, .slice q1 x.ents.length d1] 25) b2
      have e3 := mcell_alloc (o := .cells #[.slice p1 x.path.length c1, .string x.id, .string x.title, .string x.link, .int .i64 x.upd, .slice q1 x.ents.length d1] 25) b3
      have e4 := mcell_alloc (o := .cells #[.slice p1 x.path.length c1, .string x.id, .string x.title, .string x.link, .int .i64 x.upd, .slice q1 x.ents.length d1] 25) b4
      have e5 := mcell_alloc (o := .cells #[.slice p1 x.path.length c1, .string x.id, .string x.title, .string x.link, .int .i64 x.upd, .slice q1 x.ents.length d1] 25) b5
      clear hR hb hr hxs hp1 he1 hp2 he2 b2'
      cases r
      · go_wp2_with fail
        refine (cS _ hW2.symm).mono ?_
        rintro e w3 ⟨rfl, b3⟩
        rw [← hW2] at b3
        have HB3 := Lib.hid (HB2.out.trans (b3.mono (by omega)))
        clear b3 hW2 a0 a1 a2 a3 a4 a5 b0 b1 b2 b4 b5 e0 e1 e2 e3 e4 e5
        go_wp2
        go_ret
        exact ⟨mretB (by rw [HRR.out]; rfl), HB3.out⟩
      · go_wp2_with fail
        refine (cS _ hW2.symm).mono ?_
        rintro e w3 ⟨rfl, b3⟩
        rw [← hW2] at b3
        have HB3 := Lib.hid (HB2.out.trans (b3.mono (by omega)))
        clear b3 hW2 a0 a1 a2 a3 a4 a5 b0 b1 b2 b4 b5 e0 e1 e2 e3 e4 e5
        go_wp2
        go_roundw
        case rel => exact ⟨i + 1, by omega, by go_num, by rw [HRR.out]; rfl, HB3.out⟩
        case measure => simp [RowKit.intOf]; omega
    · obtain rfl : i = l.length := by omega
      have hiz : ¬ (l.length : Int) < (l.length : Int) := by omega
      rw [List.drop_length] at hR
      have HRR := Lib.hid (show R = true by rw [hR]; rfl)
      have HB := Lib.hid hb
      clear hb hR
      go_wp2
      go_ret
      exact ⟨mretB HRR.out.symm, HB.out⟩
set_option maxRecDepth 100000 in
theorem mc_Equal (l m : List FeedD) (p q : Option Addr) (c d : Nat) (w : World) (hl : FeedsAt w p l) (hm : FeedsAt w q m) (hs : ∀ f ∈ l, f.path.length ≤ 100000000 ∧ f.ents.length ≤ 100000000) (hn : l.length ≤ 100000000) :
    Calls Tryd.prog 15 #[.agg #[.slice p l.length c], .agg #[.slice q m.length d]] w fun e w' => e = .returned (.bool (eqA l m)) ∧ Below w.heap.size w w' := by
  obtain ⟨W2, hW2⟩ : ∃ W2, W2 = (w.alloc (.cells #[.slice p l.length c] 33)).alloc (.cells #[.slice q m.length d] 33) := ⟨_, rfl⟩
  have b2 : Below w.heap.size w W2 := by rw [hW2]; exact ((Below.refl _ _).alloc (Nat.le_refl _) _).alloc (by simp) _
  have e0 : W2.cell? ⟨w.heap.size, 0, none⟩ = some (.slice p l.length c) := by
    rw [hW2]
    exact mcell ((Below.refl _ _).alloc (Nat.le_refl _) _) (cell_of_row _ _ 0 _ _ _ (heap_alloc_new w (.cells #[.slice p l.length c] 33)))
  have f0 : W2.cell? ⟨w.heap.size + 1, 0, none⟩ = some (.slice q m.length d) := by
    rw [hW2]
    have h := cell_of_row _ _ 0 _ _ _ (heap_alloc_new (w.alloc (.cells #[.slice p l.length c] 33)) (.cells #[.slice q m.length d] 33))
    rw [World.size_alloc] at h
    exact h
  have cF := mc_equalFunc l m p q c d W2 (hl.below b2) (hm.below b2) hs hn
  have HB := Lib.hid b2
  generalize eqA l m = R at *
  clear hl hm hs b2
  go_enter Tryd.func15, Tryd.ntmps15
  go_upto_region 1 with fail
  simp only [← hW2]
  clear hW2
  go_wp2_with fail
  refine cF.mono ?_
  rintro e w3 ⟨rfl, b3⟩
  have HB3 := Lib.hid (HB.out.trans (b3.mono HB.out.size))
  clear b3 e0 f0 cF
  go_wp2
  go_ret
  exact ⟨rfl, HB3.out⟩
end Go.Proofs.YtggfblodjanfkaaDoor
end
