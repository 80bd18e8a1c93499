/- Packed from the texts NnV. -/
import Derived.Test.YtbfalppeifkjdaaGreatDoorVNmG
import Derived.Test.YtbfalppeifkjdaaGreatDoorVkZ
import Derived.Test.YtbfalppeifkjdaaGreatDoorVl8
import Derived.Test.YtbfalppeifkjdaaGreatDoorVm8
section
namespace Go.Proofs.YtbfalppeifkjdaaGreatDoor
open Go.RowKit
theorem lgN_small {l : List FeedD} (h : lgN l = false) : l.length ≤ 50 ∧ ∀ f ∈ l, FSm f := by
  unfold lgN at h
  rw [Bool.or_eq_false_iff] at h
  have h1 := of_decide_eq_false h.1
  exact ⟨by omega, (tlF_small l 0 h.2 (Nat.zero_le _)).2⟩
theorem fsm_fsz {f : FeedD} (h : FSm f) : FSz f := fsz_smallQ h
theorem ents_total : ∀ l : List FeedD, (∀ f ∈ l, f.ents.length ≤ 5000) → (l.flatMap FeedD.ents).length ≤ l.length * 5000
  | [], _ => Nat.le_refl _
  | f :: r, h => by
    have h1 := h f List.mem_cons_self
    have h2 := ents_total r fun g hg => h g (List.mem_cons_of_mem _ hg)
    rw [List.flatMap_cons, List.length_append, List.length_cons]
    omega
set_option maxRecDepth 100000 in
set_option maxHeartbeats 16000000 in
theorem walk_NKeepsA (l : List FeedD) (p : Option Addr) (c : Nat) (w : World) (hF : FeedsAt w p l) (hO : ∀ f ∈ l, FOpn f) (hl : l.length ≤ 140737488351232) (hT : TabW w) (hx : lgN l = true) :
    Calls Tryz.prog 6 #[.agg #[.slice p l.length c]] w fun e' w' => e' = .returned (.bool true) ∧ Below w.heap.size w w' := by
  obtain ⟨W0, hW0⟩ : ∃ W0, W0 = w.alloc (.cells #[.slice p l.length c] 46) := ⟨_, rfl⟩
  have hB0 : Below w.heap.size w W0 := by rw [hW0]; exact (Below.refl _ _).alloc (Nat.le_refl _) _
  have f00 : W0.cell? ⟨w.heap.size, 0, none⟩ = some (.slice p l.length c) := by rw [hW0]; exact cell_of_row _ _ 0 _ _ _ (heap_alloc_new w _)
  have cL := law_largeN l p c W0 (hF.below hB0) (fun f hf => (hO f hf).1.1) hl
  rw [hx] at cL
  have HB := Lib.hid hB0
  have HT := Lib.hid hT
  clear hF hO hl hT hx hB0
  go_enter Tryz.func6, Tryz.ntmps6
  go_upto_region 1 with fail
  simp only [← hW0]
  clear hW0
  go_wp2_with fail
  refine cL.mono ?_
  rintro e1 w1 ⟨rfl, b1⟩
  have hB1 := HB.out.trans (b1.mono HB.out.size)
  have cA := nz_alive w1 (TabW_below HT.out hB1)
  have HB1 := Lib.hid hB1
  clear b1 hB1 cL f00
  go_wp2_with fail
  refine cA.mono ?_
  rintro e2 w2 ⟨rfl, b2⟩
  have HB2 := Lib.hid (HB1.out.trans (b2.mono HB1.out.size))
  clear b2 cA
  go_wp2
  go_ret
  exact ⟨rfl, HB2.out⟩
set_option maxRecDepth 100000 in
set_option maxHeartbeats 16000000 in
theorem walk_NKeepsB (l : List FeedD) (p : Option Addr) (c : Nat) (w : World) (hF : FeedsAt w p l) (hO : ∀ f ∈ l, FOpn f) (hl : l.length ≤ 140737488351232) (hT : TabW w) (hx : lgN l = false) (hk : okFs [] l = false) :
    Calls Tryz.prog 6 #[.agg #[.slice p l.length c]] w fun e' w' => e' = .returned (.bool true) ∧ Below w.heap.size w w' := by
  obtain ⟨hs1, hs2⟩ := lgN_small hx
  obtain ⟨W0, hW0⟩ : ∃ W0, W0 = w.alloc (.cells #[.slice p l.length c] 46) := ⟨_, rfl⟩
  have hB0 : Below w.heap.size w W0 := by rw [hW0]; exact (Below.refl _ _).alloc (Nat.le_refl _) _
  have f00 : W0.cell? ⟨w.heap.size, 0, none⟩ = some (.slice p l.length c) := by rw [hW0]; exact cell_of_row _ _ 0 _ _ _ (heap_alloc_new w _)
  have cL := law_largeN l p c W0 (hF.below hB0) (fun f hf => (hO f hf).1.1) hl
  rw [hx] at cL
  have kC := Lib.hid (fun wx (hb : Below w.heap.size w wx) => mref_Check l p c wx (hF.below hb) ⟨fun f hf => fsm_fsz (hs2 f hf), by omega⟩)
  have HB := Lib.hid hB0
  have HT := Lib.hid hT
  have HK := Lib.hid hk
  clear hF hO hl hT hx hB0 hs1 hs2 hk
  go_enter Tryz.func6, Tryz.ntmps6
  go_upto_region 1 with fail
  simp only [← hW0]
  clear hW0
  go_wp2_with fail
  refine cL.mono ?_
  rintro e1 w1 ⟨rfl, b1⟩
  have hB1 := HB.out.trans (b1.mono HB.out.size)
  have cC := kC.out w1 hB1
  rw [HK.out, show errZ false = 22 from rfl] at cC
  replace f00 := mcell b1 f00
  have HB1 := Lib.hid hB1
  clear b1 hB1 cL
  go_wp2_with fail
  refine cC.mono ?_
  rintro e2 w2 ⟨rfl, b2⟩
  have hB2 := HB1.out.trans (b2.mono HB1.out.size)
  have cA := nz_alive w2 (TabW_below HT.out hB2)
  have HB2 := Lib.hid hB2
  clear b2 hB2 cC f00
  go_wp2_with fail
  refine cA.mono ?_
  rintro e3 w3 ⟨rfl, b3⟩
  have HB3 := Lib.hid (HB2.out.trans (b3.mono HB2.out.size))
  clear b3 cA
  go_wp2
  go_ret
  exact ⟨rfl, HB3.out⟩
set_option maxRecDepth 100000 in
set_option maxHeartbeats 32000000 in
theorem walk_NKeepsC (l : List FeedD) (p : Option Addr) (c : Nat) (w : World) (hF : FeedsAt w p l) (hO : ∀ f ∈ l, FOpn f) (hl : l.length ≤ 140737488351232) (hT : TabW w) (hx : lgN l = false) (hk : okFs [] l = true) :
    Calls Tryz.prog 6 #[.agg #[.slice p l.length c]] w fun e' w' => e' = .returned (.bool true) ∧ Below w.heap.size w w' := by
  obtain ⟨hs1, hs2⟩ := lgN_small hx
  obtain ⟨W0, hW0⟩ : ∃ W0, W0 = w.alloc (.cells #[.slice p l.length c] 46) := ⟨_, rfl⟩
  obtain ⟨b, hb⟩ : ∃ b, b = w.heap.size := ⟨_, rfl⟩
  have hB0 : Below w.heap.size w W0 := by rw [hW0]; exact (Below.refl _ _).alloc (Nat.le_refl _) _
  have f00 : W0.cell? ⟨b, 0, none⟩ = some (.slice p l.length c) := by rw [hW0, hb]; exact cell_of_row _ _ 0 _ _ _ (heap_alloc_new w _)
  have cL := law_largeN l p c W0 (hF.below hB0) (fun f hf => (hO f hf).1.1) hl
  rw [hx] at cL
  have kC := Lib.hid (fun wx (hb : Below w.heap.size w wx) => mref_Check l p c wx (hF.below hb) ⟨fun f hf => fsm_fsz (hs2 f hf), by omega⟩)
  have kArch := Lib.hid (fun wx (hb : Below w.heap.size w wx) => nz_Archive l p c wx (hF.below hb) (fun f hf => (hO f hf).fin (hs2 f hf)) (by omega) (Nat.le_trans (ents_total l fun f hf => (hs2 f hf).elen) (by omega)) (TabW_below hT hb))
  have hself := archN_self l hk
  rw [hself.1, hself.2] at kArch
  have hoks := ((okFs_iff l).1 hk).1
  have HS := Lib.hid hs2
  have HO := Lib.hid hO
  have HFA := Lib.hid hF
  have HOK := Lib.hid hoks
  have HB := Lib.hid hB0
  have HT := Lib.hid hT
  have HK := Lib.hid hk
  have HBW := Lib.hid hb
  have hlz : (l.length : Int) ≤ 50 := by omega
  have HL50 := Lib.hid hs1
  clear hF hO hl hT hx hB0 hs1 hs2 hk hself hoks hb
  go_enter Tryz.func6, Tryz.ntmps6
  go_upto_region 1 with fail
  simp only [← hW0, ← HBW.out]
  clear hW0
  go_wp2_with fail
  refine cL.mono ?_
  rintro e1 w1 ⟨rfl, b1⟩
  have hB1 := HB.out.trans (b1.mono HB.out.size)
  have cC := kC.out w1 hB1
  rw [HK.out, show errZ true = 0 from rfl] at cC
  replace f00 := mcell b1 f00
  have HB1 := Lib.hid hB1
  clear b1 hB1 cL HB
  go_wp2_with fail
  refine cC.mono ?_
  rintro e2 w2 ⟨rfl, b2⟩
  replace f00 := mcell b2 f00
  have HB2 := Lib.hid (HB1.out.trans (b2.mono HB1.out.size))
  have HF2 := Lib.hid f00
  clear b2 cC HB1
  go_wp2
  go_loopw [21] (fun q wr => ∃ i : Nat, i ≤ l.length ∧ q = .int .i64 (i : Int) ∧ wr.cell? ⟨b, 0, none⟩ = some (.slice p l.length c) ∧ Below w.heap.size w wr) (fun q _ => l.length - (RowKit.intOf q).toNat)
  case atStart => exact ⟨0, Nat.zero_le _, rfl, HF2.out, HB2.out⟩
  case round =>
    clear HF2 HB2 f00
    obtain ⟨i, hi, rfl, f0, hbr⟩ := hrel
    have hzr := hbr.size
    by_cases hlt : i < l.length
    · have hiz : (i : Int) < (l.length : Int) := by omega
      obtain ⟨a, p', c', q, d, rfl, ⟨a0, a1, a2, a3, a4, a5⟩, hn, he⟩ := HFA.out.below hbr i hlt
      have hmem : l[i] ∈ l := List.getElem_mem _
      obtain ⟨x, hx⟩ : ∃ x, l[i] = x := ⟨_, rfl⟩
      rw [hx] at a0 a1 a2 a3 a4 a5 hn he hmem
      have hfin := (HO.out x hmem).fin (HS.out x hmem)
      have hself := feedN_self x (HOK.out x hmem)
      obtain ⟨aa, haa⟩ : ∃ aa, a.add (i * 6) = aa := ⟨_, rfl⟩
      rw [haa] at a0 a1 a2 a3 a4 a5
      simp only [Addr.add, Nat.reduceEqDiff, ↓reduceIte] at a1 a2 a3 a4 a5
      obtain ⟨W2, hW2⟩ : ∃ W2, W2 = wr.alloc (.cells #[.slice p' x.path.length c', .string x.id, .string x.title, .string x.link, .int .i64 x.upd, .slice q x.ents.length d] 35) := ⟨_, rfl⟩
      obtain ⟨bx, hbx⟩ : ∃ n, n = wr.heap.size := ⟨_, rfl⟩
      have hb2 : Below wr.heap.size wr W2 := by rw [hW2]; exact (Below.refl _ _).alloc (Nat.le_refl _) _
      have hB2 := hbr.trans (hb2.mono hzr)
      have hX : FBox W2 bx x p' c' q d := by rw [hW2, hbx]; exact FBox.new wr x p' c' q d
      have hv : FeedIs W2 x (.agg #[.slice p' x.path.length c', .string x.id, .string x.title, .string x.link, .int .i64 x.upd, .slice q x.ents.length d]) := ⟨p', c', q, d, rfl, hn.below hb2, he.below hb2⟩
      have cF := nz_Feed x _ W2 [] hv hfin.1 hfin.2 (fun j hj => by cases hj) (TabW_below HT.out hB2)
      rw [hself.1, hself.2] at cF
      have f2 := mcell hb2 f0
      have HX := Lib.hid hX
      have HV := Lib.hid hv
      have HB2 := Lib.hid hB2
      have HSM := Lib.hid (HS.out x hmem)
      have HBX := Lib.hid hbx
      obtain ⟨e0, e1, e2, e3, e4, e5⟩ := hX
      clear hx hmem hn he hfin hself hB2 hv hbx hbr
      go_upto_region 6 with fail
      simp only [← hW2, ← HBX.out]
      clear hW2 hb2 haa a0 a1 a2 a3 a4 a5 f0
      go_wp2_with fail
      refine cF.mono ?_
      rintro e3 w3 ⟨y, rfl, hy, b3⟩
      obtain ⟨hyf, hyo⟩ := hy trivial
      obtain ⟨W4, hW4⟩ : ∃ W4, W4 = w3.alloc (.cells #[.slice y.p y.f.path.length y.c, .string y.f.id, .string y.f.title, .string y.f.link, .int .i64 y.f.upd, .slice y.q y.f.ents.length y.d] 35) := ⟨_, rfl⟩
      obtain ⟨by4, hby⟩ : ∃ n, n = w3.heap.size := ⟨_, rfl⟩
      have b4 : Below w3.heap.size w3 W4 := by rw [hW4]; exact (Below.refl _ _).alloc (Nat.le_refl _) _
      have b34 := b3.trans (b4.mono b3.size)
      have hB4 := HB2.out.trans (b34.mono HB2.out.size)
      have hY : FBox W4 by4 y.f y.p y.c y.q y.d := by rw [hW4, hby]; exact FBox.new w3 y.f y.p y.c y.q y.d
      have hX4 := HX.out.below b34
      have hv4 := HV.out.below b34
      have hyo4 := fcOk_mono _ _ _ (Goes.below b4).both hyo
      have hu4 : FeedIs W4 x (.agg #[.slice y.p y.f.path.length y.c, .string y.f.id, .string y.f.title, .string y.f.link, .int .i64 y.f.upd, .slice y.q y.f.ents.length y.d]) := by
        have := hyo4.is
        rw [hyf] at this
        unfold fcV at this
        exact this
      have cS := mref_Same x x _ _ W4 hv4 hu4 (by have := HSM.out.plen; omega) (by have := HSM.out.plen; omega) (by have := HSM.out.elen; omega)
      rw [(sameB_iff x x).2 rfl] at cS
      replace f2 := mcell b34 f2
      obtain ⟨y0, y1, y2, y3, y4, y5⟩ := hY
      obtain ⟨x0, x1, x2, x3, x4, x5⟩ := hX4
      have HB4 := Lib.hid hB4
      have HBY := Lib.hid hby
      clear b3 b4 b34 hB4 hv4 hyo4 hu4 hyf hyo hy cF hby e0 e1 e2 e3 e4 e5 HX HV
      go_upto_region 7 with fail
      simp only [← hW4, ← HBY.out]
      clear hW4
      go_wp2_with fail
      refine cS.mono ?_
      rintro e5 w5 ⟨rfl, b5⟩
      have F5 := Lib.hid (mcell b5 f2)
      have HB5 := Lib.hid (HB4.out.trans (b5.mono HB4.out.size))
      clear b5 cS f2 x0 x1 x2 x3 x4 x5 y0 y1 y2 y3 y4 y5
      go_wp2
      go_roundw
      case rel => exact ⟨i + 1, by omega, by go_num, F5.out, HB5.out⟩
      case measure => simp [RowKit.intOf]; omega
    · have hil : i = l.length := by omega
      subst hil
      have hiz : ¬ (l.length : Int) < (l.length : Int) := by omega
      have cA := kArch.out wr hbr
      have HBR := Lib.hid hbr
      clear hbr
      go_wp2_with fail
      refine cA.mono ?_
      rintro e3 w3 ⟨p3, c3, ys, rfl, hy, -, b3⟩
      obtain ⟨hyf, hN, hok⟩ := hy trivial
      have hyl : ys.length = l.length := by have := congrArg List.length hyf; rwa [List.length_map] at this
      have hFy := feeds_new hN hok
      rw [hyf] at hFy
      have hB3 := HBR.out.trans (b3.mono HBR.out.size)
      obtain ⟨W4, hW4⟩ : ∃ W4, W4 = w3.alloc (.cells #[.slice p3 ys.length c3] 46) := ⟨_, rfl⟩
      obtain ⟨by4, hby⟩ : ∃ n, n = w3.heap.size := ⟨_, rfl⟩
      have b4 : Below w3.heap.size w3 W4 := by rw [hW4]; exact (Below.refl _ _).alloc (Nat.le_refl _) _
      have hB4 := hB3.trans (b4.mono hB3.size)
      have g0 : W4.cell? ⟨by4, 0, none⟩ = some (.slice p3 ys.length c3) := by rw [hW4, hby]; exact cell_of_row _ _ 0 _ _ _ (heap_alloc_new w3 _)
      have hFy4 := hFy.below b4
      have f4 := mcell b4 (mcell b3 f0)
      have kA := nz_alive W4 (TabW_below HT.out hB4)
      rw [hyl] at g0
      have HB4 := Lib.hid hB4
      have HBY := Lib.hid hby
      have HY4 := Lib.hid hFy4
      have HYL := Lib.hid hyl
      clear b3 hy hyf hN hok hyl hFy hB3 b4 hB4 hFy4 cA hby f0
      go_upto_region 11 with fail
      simp only [← hW4, ← HBY.out]
      clear hW4
      go_wp2_with fail
      refine kA.mono ?_
      rintro e5 w5 ⟨rfl, b5⟩
      have hB5 := HB4.out.trans (b5.mono HB4.out.size)
      have cQ := mref_EqualA l l p p3 c c3 w5 (HFA.out.below hB5) (HY4.out.below b5) (fun f hf => ⟨by have := (HS.out f hf).plen; omega, by have := (HS.out f hf).elen; omega⟩) (fun f hf => by have := (HS.out f hf).plen; omega) (by have := HL50.out; omega)
      rw [(eqA_iff l l).2 rfl] at cQ
      replace f4 := mcell b5 f4
      replace g0 := mcell b5 g0
      have HB5 := Lib.hid hB5
      clear b5 kA hB5
      go_wp2_with fail
      refine cQ.mono ?_
      rintro e6 w6 ⟨rfl, b6⟩
      have HB6 := Lib.hid (HB5.out.trans (b6.mono HB5.out.size))
      clear b6 cQ
      go_wp2
      go_ret
      exact ⟨rfl, HB6.out⟩
theorem walk_NKeeps (l : List FeedD) (p : Option Addr) (c : Nat) (w : World) (hF : FeedsAt w p l) (hO : ∀ f ∈ l, FOpn f) (hl : l.length ≤ 140737488351232) (hT : TabW w) :
    Calls Tryz.prog 6 #[.agg #[.slice p l.length c]] w fun e' w' => e' = .returned (.bool true) ∧ Below w.heap.size w w' := by
  cases hx : lgN l with
  | true => exact walk_NKeepsA l p c w hF hO hl hT hx
  | false =>
    cases hk : okFs [] l with
    | false => exact walk_NKeepsB l p c w hF hO hl hT hx hk
    | true => exact walk_NKeepsC l p c w hF hO hl hT hx hk
end Go.Proofs.YtbfalppeifkjdaaGreatDoor
end
