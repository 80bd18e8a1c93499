/- Packed from the texts JwI. -/
import Derived.Test.YtbfalppeifkjdaaGreatDoorXk4
import Derived.Test.YtbfalppeifkjdaaGreatDoorXkJ
import Derived.Deep.RegionHeld3
section
namespace Go.Proofs.YtbfalppeifkjdaaGreatDoor
open Go.RowKit
theorem Cg.blk {pb n : Nat} {v v' : Value} {w w' : World} {cs : Array Value} {T : TypeId} (h : Cg pb v v' w w') (hb : Bj w n cs T) (hn : n ≠ pb) (ho : v.ownBlock ≠ some n) : Bj w' n cs T := (h.block n hb.lt hn ho).trans hb
theorem Wst.no {w : World} {pb : Nat} {l : List UInt8} {vd : Value} (h : Wst w pb l vd) {n : Nat} (hn : w.heap.size ≤ n) : n ≠ pb ∧ vd.ownBlock ≠ some n := ⟨fun e => by have := h.lt; omega, fun e => by have := (h.ge n e).2; omega⟩
def WrO (pb : Nat) (vd : Value) (l t : List UInt8) (w : World) (e : Ending) (w' : World) : Prop := e = .returned (.tuple #[]) ∧ ∃ vd', Wst w' pb (l ++ t) vd' ∧ Cg pb vd vd' w w'
theorem WrO.of {pb : Nat} {vd vd' : Value} {l t l' : List UInt8} {w w' : World} (hl : l' = l ++ t) (h : Wst w' pb l' vd') (hc : Cg pb vd vd' w w') : WrO pb vd l t w (.returned (.tuple #[])) w' := ⟨rfl, vd', hl ▸ h, hc⟩
def okW (n : ValD) : Prop := n.bulk ≤ 1000000 ∧ n.okB = true ∧ n.R64
def WvAt (n : ValD) (v : Value) : Prop := ∀ (wb w : World) (pb : Nat) (vd : Value) (l : List UInt8), ValIs wb n v → Below wb.heap.size wb w → wb.heap.size ≤ pb → TabW wb → Wst w pb l vd → l.length + n.text.length ≤ 100000000 → Calls Tryz.prog 124 #[.pointer (some ⟨pb, 0, none⟩), v] w (WrO pb vd l n.text w)
def WvC (f : Nat) : Prop := ∀ (n : ValD) (v : Value), n.bulk ≤ f → okW n → WvAt n v
theorem tabW_of {wb w : World} (h : TabW wb) (hb : Below wb.heap.size wb w) : TabW w := TabW_below h hb
theorem wst_below {wb w w' : World} {pb : Nat} {vd vd' : Value} (hb : Below wb.heap.size wb w) (hp : wb.heap.size ≤ pb) {l : List UInt8} (h : Wst w pb l vd) (hc : Cg pb vd vd' w w') : Below wb.heap.size wb w' := hc.below hb hp (fun k hk => Nat.le_trans hp (h.ge k hk).1) hb.size
set_option maxRecDepth 100000 in
set_option maxHeartbeats 4000000 in
theorem wr_str (pb : Nat) (vd : Value) (l : List UInt8) (s : ByteArray) (w : World) (hs : s.size ≤ 1000000) (hv : vaL s.data.toList = true) (hT : TabW w) (h : Wst w pb l vd) (hl : l.length + (quoteJ s.data.toList).length ≤ 100000000) :
    Calls Tryz.prog 142 #[.pointer (some ⟨pb, 0, none⟩), .string s] w (WrO pb vd l (quoteJ s.data.toList) w) := by
  have c1 := js_QuoteE s w hs hT.1 hT.2.1
  rw [quote_ok _ hv] at c1
  simp only at c1
  have cW : ∀ wx, Below w.heap.size w wx → _ := fun wx hb => wj_WriteString pb l vd (ofBytes (quoteJ s.data.toList)) wx (h.more hb) (by rw [ofBytes_size]; omega)
  rw [show (ofBytes (quoteJ s.data.toList)).data.toList = quoteJ s.data.toList by simp [ofBytes]] at cW
  clear hs hv hT h hl
  generalize quoteJ s.data.toList = t at *
  go_enter Tryz.func142, Tryz.ntmps142
  go_wp2_with fail
  refine c1.mono ?_
  rintro e w1 ⟨rfl, b1⟩
  have cX := cW w1 b1
  clear cW c1
  go_wp2_with fail
  refine cX.mono ?_
  rintro e w2 ⟨rfl, vd', hW, hC⟩
  go_wp2
  go_end0
  exact ⟨rfl, vd', hW, (Cg.of vd b1).trans hC⟩
set_option maxRecDepth 100000 in
set_option maxHeartbeats 4000000 in
theorem wr_member (m : MemD) (v0 v1 v2 v3 v4 v5 v6 : Value) (hm : WvAt m.v (.agg #[v0, v1, v2, v3, v4, v5, v6])) (wb w : World) (pb : Nat) (vd : Value) (l : List UInt8) (hn : ValIs wb m.v (.agg #[v0, v1, v2, v3, v4, v5, v6])) (hk : m.key.size ≤ 1000000) (hv : vaL m.key.data.toList = true) (hb : Below wb.heap.size wb w) (hp : wb.heap.size ≤ pb) (hT : TabW wb) (h : Wst w pb l vd) (hl : l.length + m.text.length ≤ 100000000) :
    Calls Tryz.prog 146 #[.pointer (some ⟨pb, 0, none⟩), .agg #[.string m.key, v0, v1, v2, v3, v4, v5, v6, .int .i64 m.at']] w (WrO pb vd l m.text w) := by
  have htx := mtext_eq m
  rw [htx] at hl ⊢
  simp only [List.length_append, List.length_cons] at hl
  obtain ⟨W0, hW0⟩ : ∃ W0, W0 = w.alloc (.cells #[.string m.key, v0, v1, v2, v3, v4, v5, v6, .int .i64 m.at'] 188) := ⟨_, rfl⟩
  have B0 : Bj W0 w.heap.size #[.string m.key, v0, v1, v2, v3, v4, v5, v6, .int .i64 m.at'] 188 := by rw [hW0]; exact Bj.new w _ _
  have hb0 : Below w.heap.size w W0 := by rw [hW0]; exact (Below.refl _ _).alloc (Nat.le_refl _) _
  have hbw0 : Below wb.heap.size wb W0 := hb.trans (hb0.mono hb.size)
  have h0 := h.more hb0
  have c1 := wr_str pb vd l m.key W0 hk hv (tabW_of hT hbw0) h0 (by omega)
  have hno := h.no (Nat.le_refl _)
  have HB0 := Lib.hid B0
  have HC0 := Lib.hid (Cg.of (pb := pb) vd hb0)
  have HBW := Lib.hid hbw0
  have HW := Lib.hid h0
  have HT := Lib.hid hT
  have HN := Lib.hid hn
  have HM := Lib.hid hm
  have HNO := Lib.hid hno
  have k0 := B0.cell 0
  have hpw := h0.lt
  clear hb0 B0 hbw0 h0 hb hT hn hm hno h htx
  generalize m.text = TX at *
  generalize m.at' = ma at *
  go_enter Tryz.func146, Tryz.ntmps146
  go_upto_region 1 with fail
  simp only [← hW0]
  clear hW0
  go_wp2_with fail
  refine c1.mono ?_
  rintro e w1 ⟨rfl, vd1, hW1, hC1⟩
  have HC1 := Lib.hid hC1
  have hno1 : w.heap.size ≠ pb ∧ vd1.ownBlock ≠ some w.heap.size := ⟨HNO.out.1, fun e => by
    rcases hC1.own _ e with x | x
    · exact HNO.out.2 x
    · have := HB0.out.lt
      omega⟩
  have B1 := hC1.blk HB0.out HNO.out.1 HNO.out.2
  have hbw1 := wst_below HBW.out hp HW.out hC1
  have c2 := wj_WriteByte pb (l ++ quoteJ m.key.data.toList) vd1 58 58 rfl w1 hW1 (by rw [List.length_append]; omega)
  clear c1 k0
  go_wp2_with fail
  refine c2.mono ?_
  rintro e w2 ⟨rfl, vd2, hW2, hC2⟩
  obtain ⟨⟨k0, k1, k2, k3, k4, k5, k6, k7, k8⟩, -⟩ := (hC2.blk B1 hno1.1 hno1.2).nine
  have hbw2 := wst_below hbw1 hp hW1 hC2
  have c3 := HM.out wb w2 pb vd2 (l ++ quoteJ m.key.data.toList ++ [58]) HN.out hbw2 hp HT.out hW2 (by simp only [List.length_append, List.length_singleton]; omega)
  have HC2 := Lib.hid hC2
  clear c2 hC1 hC2 hW1 hW2 hbw1 hbw2 B1 k0 k8
  go_wp2_with fail
  refine c3.mono ?_
  rintro e w3 ⟨rfl, vd3, hW3, hC3⟩
  go_wp2
  go_end0
  exact WrO.of (by simp) hW3 (HC0.out.trans (HC1.out.trans (HC2.out.trans hC3)))
set_option maxRecDepth 100000 in
set_option maxHeartbeats 16000000 in
theorem wr_joinV (items : List ValD) (p : Option Addr) (c : Nat) (wb : World) (pb : Nat) (hI : ItemsAt wb p 0 items) (hA : ∀ k ∈ items, ∀ v, WvAt k v) (hlen : items.length ≤ 1000000) (w : World) (vd : Value) (l : List UInt8) (hb : Below wb.heap.size wb w) (hp : wb.heap.size ≤ pb) (hT : TabW wb) (h : Wst w pb l vd) (hl : l.length + (txVs true items).length ≤ 100000000) :
    Calls Tryz.prog 144 #[.pointer (some ⟨pb, 0, none⟩), .slice p items.length c, .func (.func 124) #[.pointer (some ⟨pb, 0, none⟩)] #[]] w (WrO pb vd l (txVs true items) w) := by
  have hlz : (items.length : Int) ≤ 1000000 := by omega
  have HA := Lib.hid hA
  have HI := Lib.hid hI
  have HB := Lib.hid hb
  have HT := Lib.hid hT
  have HW := Lib.hid h
  have hpw := h.lt
  obtain ⟨TX, hTX⟩ : ∃ t, txVs true items = t := ⟨_, rfl⟩
  rw [hTX] at hl ⊢
  have HTX := Lib.hid hTX
  clear hA hI hb hT h hlen hTX
  go_enter Tryz.func144, Tryz.ntmps144
  go_wp2
  go_loopw [10] (fun q wr => ∃ (i : Nat) (acc : List UInt8) (vr : Value), i ≤ items.length ∧ q = .int .i64 (i : Int) ∧ TX = acc ++ txVs (decide (i = 0)) (items.drop i) ∧ Wst wr pb (l ++ acc) vr ∧ Cg pb vd vr w wr) (fun q _ => items.length - (RowKit.intOf q).toNat)
  case atStart => exact ⟨0, [], vd, Nat.zero_le _, rfl, HTX.out.symm, by rw [List.append_nil]; exact HW.out, Cg.refl _ _ _⟩
  case round =>
    obtain ⟨i, acc, vr, hi, rfl, hrel, hwr, hcr⟩ := hrel
    have hbr := wst_below HB.out hp HW.out hcr
    by_cases hlt : i < items.length
    · have hiz : (i : Int) < (items.length : Int) := by omega
      obtain ⟨a, p2, c2, q2, d2, rfl, ⟨b0, b1, b2, b3, b4, b5, b6⟩, hkb⟩ := HI.out.cells i hlt
      have a0 := (hbr.cell (vblock_lt b0)).trans b0
      have a1 := (hbr.cell (vblock_lt b1)).trans b1
      have a2 := (hbr.cell (vblock_lt b2)).trans b2
      have a3 := (hbr.cell (vblock_lt b3)).trans b3
      have a4 := (hbr.cell (vblock_lt b4)).trans b4
      have a5 := (hbr.cell (vblock_lt b5)).trans b5
      have a6 := (hbr.cell (vblock_lt b6)).trans b6
      rw [txVs_drop items i hlt] at hrel
      obtain ⟨k, hkk⟩ : ∃ k, items[i] = k := ⟨_, rfl⟩
      have hmem : k ∈ items := by rw [← hkk]; exact List.getElem_mem _
      rw [hkk] at hkb hrel a0 a1 a2 a3 a4 a5 a6
      have cA := HA.out k hmem
      obtain ⟨cc, hcc⟩ : ∃ c, a.add (i * 7) = c := ⟨_, rfl⟩
      rw [hcc] at a0 a1 a2 a3 a4 a5 a6
      simp only [Addr.add, Nat.reduceEqDiff, ↓reduceIte] at a1 a2 a3 a4 a5 a6
      have hal : l.length + acc.length + k.text.length ≤ 100000000 := by
        have h1 := hrel
        have := congrArg List.length hrel
        simp only [List.length_append] at this ⊢
        omega
      obtain ⟨W2, hW2⟩ : ∃ W2, W2 = wr.alloc (.cells #[.int .i64 k.kind, .bool k.b, .int .i64 k.n, .string k.s, .slice p2 k.items.length c2, .slice q2 k.mems.length d2, .int .i64 k.at'] 119) := ⟨_, rfl⟩
      have B2 : Bj W2 wr.heap.size #[.int .i64 k.kind, .bool k.b, .int .i64 k.n, .string k.s, .slice p2 k.items.length c2, .slice q2 k.mems.length d2, .int .i64 k.at'] 119 := by rw [hW2]; exact Bj.new wr _ _
      have hb2 : Below wr.heap.size wr W2 := by rw [hW2]; exact (Below.refl _ _).alloc (Nat.le_refl _) _
      have hw2 := hwr.more hb2
      have hno := hwr.no (Nat.le_refl _)
      have hc2 : Cg pb vd vr w W2 := hcr.trans (Cg.of vr hb2)
      have hbw2 := wst_below HB.out hp HW.out hc2
      have HW2 := Lib.hid hw2
      have HB2 := Lib.hid B2
      have HC2 := Lib.hid hc2
      have HBW := Lib.hid hbw2
      have HK := Lib.hid hkb
      have HNO := Lib.hid hno
      have HR := Lib.hid hrel
      have HCA := Lib.hid cA
      have hz2 : pb < W2.heap.size := hw2.lt
      obtain ⟨⟨k0, k1, k2, k3, k4, k5, k6⟩, -⟩ := B2.seven
      clear hkb hmem hkk hbr b0 b1 b2 b3 b4 b5 b6 hwr hcr B2 hb2 hw2 hc2 hbw2 hno hrel cA
      by_cases hi0 : i = 0
      · subst hi0
        have c3 := HCA.out _ _ W2 pb vr (l ++ acc) HK.out  HBW.out hp HT.out HW2.out (by rw [List.length_append]; omega)
        have c3 := fun (wx : World) (hx : wx = W2) => (show Calls Tryz.prog 124 _ wx _ from hx ▸ c3)
        have HN := Lib.hid (show TX = (acc ++ k.text) ++ txVs (decide (0 + 1 = 0)) (items.drop (0 + 1)) by rw [HR.out]; simp [sepT])
        clear hz2
        go_wp2_with fail
        refine (c3 _ hW2.symm).mono ?_
        rintro e w3 ⟨rfl, vd3, hW3, hC3⟩
        rw [← hW2] at hC3
        have HC3 := Lib.hid (HC2.out.trans hC3)
        have HW3 := Lib.hid hW3
        clear hW3 hC3 c3 hW2
        go_wp2
        go_roundw
        case rel => exact ⟨0 + 1, acc ++ k.text, vd3, hlt, by go_num, HN.out, by rw [← List.append_assoc]; exact HW3.out, HC3.out⟩
        case measure => simp [RowKit.intOf]; omega
      · have hiz0 : (0 : Int) < (i : Int) := by omega
        have HN := Lib.hid (show TX = ((acc ++ [44]) ++ k.text) ++ txVs (decide (i + 1 = 0)) (items.drop (i + 1)) by rw [HR.out, decide_eq_false hi0, decide_eq_false (by omega)]; simp [sepT])
        have c4 := wj_WriteByte pb (l ++ acc) vr 44 44 rfl W2 HW2.out (by rw [List.length_append]; omega)
        have c4 := fun (wx : World) (hx : wx = W2) => (show Calls Tryz.prog 143 _ wx _ from hx ▸ c4)
        have hE : ∀ E R : List UInt8, TX = ((acc ++ [44]) ++ E) ++ R → l.length + acc.length + 1 + E.length ≤ 100000000 := fun E R h => by
          have := congrArg List.length h
          simp only [List.length_append, List.length_singleton] at this
          omega
        have hal2 := hE _ _ HN.out
        clear hi0 hE hal
        go_wp2_with fail
        refine (c4 _ hW2.symm).mono ?_
        rintro e w4 ⟨rfl, vd4, hW4, hC4⟩
        rw [← hW2] at hC4
        have hbw4 := wst_below HBW.out hp HW2.out hC4
        have c3 := HCA.out _ _ w4 pb vd4 (l ++ acc ++ [44]) HK.out  hbw4 hp HT.out hW4 (by rw [List.length_append, List.length_append, List.length_singleton]; omega)
        obtain ⟨⟨j0, j1, j2, j3, j4, j5, j6⟩, -⟩ := (hC4.blk HB2.out HNO.out.1 HNO.out.2).seven
        have HC4 := Lib.hid (HC2.out.trans hC4)
        clear hW4 hC4 hbw4 c4 k0 k1 k2 k3 k4 k5 k6 hW2
        go_wp2_with fail
        refine c3.mono ?_
        rintro e w3 ⟨rfl, vd3, hW3, hC3⟩
        have HC3 := Lib.hid (HC4.out.trans hC3)
        have HW3 := Lib.hid hW3
        clear hW3 hC3 c3
        go_wp2
        go_roundw
        case rel => exact ⟨i + 1, (acc ++ [44]) ++ k.text, vd3, hlt, by go_num, HN.out, by rw [show l ++ ((acc ++ [44]) ++ k.text) = l ++ acc ++ [44] ++ k.text by simp only [List.append_assoc]]; exact HW3.out, HC3.out⟩
        case measure => simp [RowKit.intOf]; omega
    · obtain rfl : i = items.length := by omega
      have hiz : ¬ (items.length : Int) < (items.length : Int) := by omega
      rw [List.drop_eq_nil_of_le (Nat.le_refl _), txVs, List.append_nil] at hrel
      have HX := Lib.hid hrel
      clear hrel hbr
      go_wp2
      go_end0
      exact WrO.of (by rw [HX.out]) hwr hcr
set_option maxRecDepth 100000 in
set_option maxHeartbeats 16000000 in
theorem wr_joinM (mems : List MemD) (p : Option Addr) (c : Nat) (wb : World) (pb : Nat) (hI : MemsAt wb p 0 mems) (hA : ∀ m ∈ mems, m.key.size ≤ 1000000 ∧ vaL m.key.data.toList = true ∧ ∀ v, WvAt m.v v) (hlen : mems.length ≤ 1000000) (w : World) (vd : Value) (l : List UInt8) (hb : Below wb.heap.size wb w) (hp : wb.heap.size ≤ pb) (hT : TabW wb) (h : Wst w pb l vd) (hl : l.length + (txMs true mems).length ≤ 100000000) :
    Calls Tryz.prog 145 #[.pointer (some ⟨pb, 0, none⟩), .slice p mems.length c, .func (.func 146) #[.pointer (some ⟨pb, 0, none⟩)] #[]] w (WrO pb vd l (txMs true mems) w) := by
  have hlz : (mems.length : Int) ≤ 1000000 := by omega
  have HA := Lib.hid hA
  have HI := Lib.hid hI
  have HB := Lib.hid hb
  have HT := Lib.hid hT
  have HW := Lib.hid h
  have hpw := h.lt
  obtain ⟨TX, hTX⟩ : ∃ t, txMs true mems = t := ⟨_, rfl⟩
  rw [hTX] at hl ⊢
  have HTX := Lib.hid hTX
  clear hA hI hb hT h hlen hTX
  go_enter Tryz.func145, Tryz.ntmps145
  go_wp2
  go_loopw [10] (fun q wr => ∃ (i : Nat) (acc : List UInt8) (vr : Value), i ≤ mems.length ∧ q = .int .i64 (i : Int) ∧ TX = acc ++ txMs (decide (i = 0)) (mems.drop i) ∧ Wst wr pb (l ++ acc) vr ∧ Cg pb vd vr w wr) (fun q _ => mems.length - (RowKit.intOf q).toNat)
  case atStart => exact ⟨0, [], vd, Nat.zero_le _, rfl, HTX.out.symm, by rw [List.append_nil]; exact HW.out, Cg.refl _ _ _⟩
  case round =>
    obtain ⟨i, acc, vr, hi, rfl, hrel, hwr, hcr⟩ := hrel
    have hbr := wst_below HB.out hp HW.out hcr
    by_cases hlt : i < mems.length
    · have hiz : (i : Int) < (mems.length : Int) := by omega
      obtain ⟨a, p2, c2, q2, d2, rfl, ⟨b0, b1, b2, b3, b4, b5, b6, b7, b8⟩, hkb⟩ := HI.out.cells i hlt
      have a0 := (hbr.cell (vblock_lt b0)).trans b0
      have a1 := (hbr.cell (vblock_lt b1)).trans b1
      have a2 := (hbr.cell (vblock_lt b2)).trans b2
      have a3 := (hbr.cell (vblock_lt b3)).trans b3
      have a4 := (hbr.cell (vblock_lt b4)).trans b4
      have a5 := (hbr.cell (vblock_lt b5)).trans b5
      have a6 := (hbr.cell (vblock_lt b6)).trans b6
      have a7 := (hbr.cell (vblock_lt b7)).trans b7
      have a8 := (hbr.cell (vblock_lt b8)).trans b8
      rw [txMs_drop mems i hlt] at hrel
      obtain ⟨m, hkk⟩ : ∃ k, mems[i] = k := ⟨_, rfl⟩
      have hmem : m ∈ mems := by rw [← hkk]; exact List.getElem_mem _
      rw [hkk] at hkb hrel a0 a1 a2 a3 a4 a5 a6 a7 a8
      have cA := HA.out m hmem
      obtain ⟨cc, hcc⟩ : ∃ c, a.add (i * 9) = c := ⟨_, rfl⟩
      rw [hcc] at a0 a1 a2 a3 a4 a5 a6 a7 a8
      simp only [Addr.add, Nat.reduceEqDiff, ↓reduceIte] at a1 a2 a3 a4 a5 a6 a7 a8
      have hal : l.length + acc.length + (quoteJ m.key.data.toList ++ (58 :: m.v.text)).length ≤ 100000000 := by
        have h1 := hrel
        have := congrArg List.length hrel
        simp only [List.length_append] at this ⊢
        omega
      obtain ⟨W2, hW2⟩ : ∃ W2, W2 = wr.alloc (.cells #[.string m.key, .int .i64 m.v.kind, .bool m.v.b, .int .i64 m.v.n, .string m.v.s, .slice p2 m.v.items.length c2, .slice q2 m.v.mems.length d2, .int .i64 m.v.at', .int .i64 m.at'] 188) := ⟨_, rfl⟩
      have B2 : Bj W2 wr.heap.size #[.string m.key, .int .i64 m.v.kind, .bool m.v.b, .int .i64 m.v.n, .string m.v.s, .slice p2 m.v.items.length c2, .slice q2 m.v.mems.length d2, .int .i64 m.v.at', .int .i64 m.at'] 188 := by rw [hW2]; exact Bj.new wr _ _
      have hb2 : Below wr.heap.size wr W2 := by rw [hW2]; exact (Below.refl _ _).alloc (Nat.le_refl _) _
      have hw2 := hwr.more hb2
      have hno := hwr.no (Nat.le_refl _)
      have hc2 : Cg pb vd vr w W2 := hcr.trans (Cg.of vr hb2)
      have hbw2 := wst_below HB.out hp HW.out hc2
      have HW2 := Lib.hid hw2
      have HB2 := Lib.hid B2
      have HC2 := Lib.hid hc2
      have HBW := Lib.hid hbw2
      have HK := Lib.hid hkb
      have HNO := Lib.hid hno
      have HR := Lib.hid hrel
      have HCA := Lib.hid cA
      have hz2 : pb < W2.heap.size := hw2.lt
      obtain ⟨⟨k0, k1, k2, k3, k4, k5, k6, k7, k8⟩, -⟩ := B2.nine
      clear hkb hmem hkk hbr b0 b1 b2 b3 b4 b5 b6 b7 b8 hwr hcr B2 hb2 hw2 hc2 hbw2 hno hrel cA
      by_cases hi0 : i = 0
      · subst hi0
        have c3 := wr_member m _ _ _ _ _ _ _ (HCA.out.2.2 _) _ W2 pb vr (l ++ acc) HK.out HCA.out.1 HCA.out.2.1 HBW.out hp HT.out HW2.out (by rw [mtext_eq, List.length_append]; omega)
        have c3 := fun (wx : World) (hx : wx = W2) => (show Calls Tryz.prog 146 _ wx _ from hx ▸ c3)
        have HN := Lib.hid (show TX = (acc ++ (quoteJ m.key.data.toList ++ (58 :: m.v.text))) ++ txMs (decide (0 + 1 = 0)) (mems.drop (0 + 1)) by rw [HR.out]; simp [sepT])
        clear hz2
        go_wp2_with fail
        refine (c3 _ hW2.symm).mono ?_
        rintro e w3 ⟨rfl, vd3, hW3, hC3⟩
        rw [← hW2] at hC3
        have HC3 := Lib.hid (HC2.out.trans hC3)
        rw [mtext_eq] at hW3
        have HW3 := Lib.hid hW3
        clear hW3 hC3 c3 hW2
        go_wp2
        go_roundw
        case rel => exact ⟨0 + 1, acc ++ (quoteJ m.key.data.toList ++ (58 :: m.v.text)), vd3, hlt, by go_num, HN.out, by rw [← List.append_assoc]; exact HW3.out, HC3.out⟩
        case measure => simp [RowKit.intOf]; omega
      · have hiz0 : (0 : Int) < (i : Int) := by omega
        have HN := Lib.hid (show TX = ((acc ++ [44]) ++ (quoteJ m.key.data.toList ++ (58 :: m.v.text))) ++ txMs (decide (i + 1 = 0)) (mems.drop (i + 1)) by rw [HR.out, decide_eq_false hi0, decide_eq_false (by omega)]; simp [sepT])
        have c4 := wj_WriteByte pb (l ++ acc) vr 44 44 rfl W2 HW2.out (by rw [List.length_append]; omega)
        have c4 := fun (wx : World) (hx : wx = W2) => (show Calls Tryz.prog 143 _ wx _ from hx ▸ c4)
        have hE : ∀ E R : List UInt8, TX = ((acc ++ [44]) ++ E) ++ R → l.length + acc.length + 1 + E.length ≤ 100000000 := fun E R h => by
          have := congrArg List.length h
          simp only [List.length_append, List.length_singleton] at this
          omega
        have hal2 := hE _ _ HN.out
        clear hi0 hE hal
        go_wp2_with fail
        refine (c4 _ hW2.symm).mono ?_
        rintro e w4 ⟨rfl, vd4, hW4, hC4⟩
        rw [← hW2] at hC4
        have hbw4 := wst_below HBW.out hp HW2.out hC4
        have c3 := wr_member m _ _ _ _ _ _ _ (HCA.out.2.2 _) _ w4 pb vd4 (l ++ acc ++ [44]) HK.out HCA.out.1 HCA.out.2.1 hbw4 hp HT.out hW4 (by rw [mtext_eq, List.length_append, List.length_append, List.length_singleton]; omega)
        obtain ⟨⟨j0, j1, j2, j3, j4, j5, j6, j7, j8⟩, -⟩ := (hC4.blk HB2.out HNO.out.1 HNO.out.2).nine
        have HC4 := Lib.hid (HC2.out.trans hC4)
        clear hW4 hC4 hbw4 c4 k0 k1 k2 k3 k4 k5 k6 k7 k8 hW2
        go_wp2_with fail
        refine c3.mono ?_
        rintro e w3 ⟨rfl, vd3, hW3, hC3⟩
        have HC3 := Lib.hid (HC4.out.trans hC3)
        rw [mtext_eq] at hW3
        have HW3 := Lib.hid hW3
        clear hW3 hC3 c3
        go_wp2
        go_roundw
        case rel => exact ⟨i + 1, (acc ++ [44]) ++ (quoteJ m.key.data.toList ++ (58 :: m.v.text)), vd3, hlt, by go_num, HN.out, by rw [show l ++ ((acc ++ [44]) ++ (quoteJ m.key.data.toList ++ (58 :: m.v.text))) = l ++ acc ++ [44] ++ (quoteJ m.key.data.toList ++ (58 :: m.v.text)) by simp only [List.append_assoc]]; exact HW3.out, HC3.out⟩
        case measure => simp [RowKit.intOf]; omega
    · obtain rfl : i = mems.length := by omega
      have hiz : ¬ (mems.length : Int) < (mems.length : Int) := by omega
      rw [List.drop_eq_nil_of_le (Nat.le_refl _), txMs, List.append_nil] at hrel
      have HX := Lib.hid hrel
      clear hrel hbr
      go_wp2
      go_end0
      exact WrO.of (by rw [HX.out]) hwr hcr
set_option maxRecDepth 100000 in
set_option maxHeartbeats 32000000 in
theorem wv_step (f : Nat) (IH : WvC f) : WvC (f + 1) := by
    intro n v hf hk wb w pb vd l hn hb hp hT h hl
    obtain ⟨hc, hok, hr⟩ := hk
    have hbe := vbulk_eq n
    rw [vok_eq, Bool.and_eq_true, Bool.and_eq_true, Bool.and_eq_true] at hok
    obtain ⟨hpr, hsv, hiv, hmv⟩ := hok
    have hpr := of_decide_eq_true (show decide _ = true from hpr)
    obtain ⟨⟨hk0, hk5⟩, pb1, pn, ps, pi, pm⟩ := hpr
    obtain ⟨⟨hr0, hr1⟩, hri, hrm⟩ := (vr64_eq n).1 hr
    have HIM := Lib.hid (fun (k : ValD) (hk : k ∈ n.items) => show ∀ v, WvAt k v from fun v => IH k v (by have := bulk_item n k hk; omega) ⟨by have := bulk_item n k hk; omega, okVs_at _ hiv k hk, r64s_mem _ hri k hk⟩)
    have HMM := Lib.hid (fun (m : MemD) (hm : m ∈ n.mems) => show m.key.size ≤ 1000000 ∧ vaL m.key.data.toList = true ∧ ∀ v, WvAt m.v v from ⟨by have := bulk_mem n m hm; omega, (okMs_at _ _ hmv m hm).1, fun v => IH m.v v (by have := bulk_mem n m hm; omega) ⟨by have := bulk_mem n m hm; omega, (okMs_at _ _ hmv m hm).2, r64m_mem _ hrm m hm⟩⟩)
    have hil : n.items.length ≤ 1000000 := by have := bulkVs_len n.items; omega
    have hml : n.mems.length ≤ 1000000 := by have := bulkMs_len n.mems; omega
    have htx := vtext_eq n
    have hsz : n.s.size ≤ 1000000 := by omega
    obtain ⟨p, c, q, d, rfl, hI, hM⟩ := (val_is wb n v).1 hn
    obtain ⟨W0, hW0⟩ : ∃ W0, W0 = w.alloc (.cells #[.int .i64 n.kind, .bool n.b, .int .i64 n.n, .string n.s, .slice p n.items.length c, .slice q n.mems.length d, .int .i64 n.at'] 119) := ⟨_, rfl⟩
    have B0 : Bj W0 w.heap.size #[.int .i64 n.kind, .bool n.b, .int .i64 n.n, .string n.s, .slice p n.items.length c, .slice q n.mems.length d, .int .i64 n.at'] 119 := by rw [hW0]; exact Bj.new w _ _
    have hb0 : Below w.heap.size w W0 := by rw [hW0]; exact (Below.refl _ _).alloc (Nat.le_refl _) _
    have hbw0 : Below wb.heap.size wb W0 := hb.trans (hb0.mono hb.size)
    have h0 := h.more hb0
    have HB0 := Lib.hid B0
    have HC0 := Lib.hid (Cg.of (pb := pb) vd hb0)
    have HBW := Lib.hid hbw0
    have HNO := Lib.hid (h.no (Nat.le_refl _))
    have HW := Lib.hid h0
    have HT := Lib.hid hT
    have HI := Lib.hid hI
    have HM := Lib.hid hM
    have hpw := h0.lt
    have hno : ∀ (vx : Value) (wx : World), Cg pb vd vx W0 wx → w.heap.size ≠ pb ∧ vx.ownBlock ≠ some w.heap.size := fun vx wx hx => ⟨HNO.out.1, fun e => by
      rcases hx.own _ e with x | x
      · exact HNO.out.2 x
      · have := HB0.out.lt
        omega⟩
    have HNX := Lib.hid hno
    obtain ⟨⟨f0, f1, f2, f3, f4, f5, -⟩, -⟩ := B0.seven
    clear hb0 B0 hbw0 h0 hb hT hn hno h hf hbe hc hr hiv hmv hri hrm hI hM IH
    generalize hT : n.text = TX at *
    clear hT
    generalize n.kind = kd at *
    generalize n.b = bb at *
    generalize n.n = nn at *
    generalize n.s = ss at *
    generalize n.items = items at *
    generalize n.mems = mems at *
    generalize n.at' = aa at *
    have HTX := Lib.hid htx
    clear htx
    rcases (show kd = 0 ∨ kd = 1 ∨ kd = 2 ∨ kd = 3 ∨ kd = 4 ∨ kd = 5 by omega) with rfl | rfl | rfl | rfl | rfl | rfl
    · obtain rfl : TX = nullT := HTX.out
      have c1 := wj_WriteString pb l vd ⟨#[110, 117, 108, 108]⟩ W0 HW.out (by show l.length + 4 ≤ _; omega)
      go_enter Tryz.func124, Tryz.ntmps124
      go_upto_region 1 with fail
      simp only [← hW0]
      clear hW0
      go_wp2_with fail
      refine c1.mono ?_
      rintro e w3 ⟨rfl, vd3, hW3, hC3⟩
      go_wp2
      go_end0
      exact WrO.of rfl hW3 (HC0.out.trans hC3)
    · obtain rfl : TX = boolT bb := HTX.out
      have c1 := fun wx => jw_Bool bb wx
      have c2 : ∀ wx, Below W0.heap.size W0 wx → _ := fun wx hx => wj_WriteString pb l vd (ofBytes (boolT bb)) wx (HW.out.more hx) (by rw [ofBytes_size]; omega)
      go_enter Tryz.func124, Tryz.ntmps124
      go_upto_region 1 with fail
      simp only [← hW0]
      clear hW0
      go_wp2
      have hbx := HB0.out.lt
      go_region_held3 (fun w' => w'.cell? ⟨w.heap.size, 1, none⟩ = some (.bool bb)) (first | exact f1 | exact hS1 | exact hS3) (first | (go_at_call 140; refine (c1 _).mono ?_; rintro e w1 ⟨rfl, b1⟩; have b1d : Below W0.heap.size W0 w1 := ((Below.refl W0.heap.size W0).drew).trans b1; have hS1 : w1.cell? ⟨w.heap.size, 1, none⟩ = some (.bool bb) := (b1.cell (p := ⟨w.heap.size, 1, none⟩) hbx).trans f1) | (go_at_call 139; with_reducible refine (c2 _ b1d).mono ?_; rintro e w3 ⟨rfl, vd3, hW3, hC3⟩; have hS3 : w3.cell? ⟨w.heap.size, 1, none⟩ = some (.bool bb) := by rw [World.cell?_of_block (hC3.block w.heap.size (Nat.lt_of_lt_of_le hbx b1d.size) HNO.out.1 HNO.out.2)]; exact hS1))
      go_wp2
      go_end0
      exact WrO.of (by simp [ofBytes]) hW3 (HC0.out.trans ((Cg.of vd b1d).trans hC3))
    · obtain rfl : TX = Lib.itoa nn := HTX.out
      have c1 : ∀ wx, TabW wx → _ := fun wx hx => jw_Int nn hr0 hr1 wx hx
      have hTd : TabW W0.drew := tabW_of HT.out (HBW.out.trans ((Below.refl W0.heap.size W0).drew.mono HBW.out.size))
      have c2 : ∀ wx, Below W0.heap.size W0 wx → _ := fun wx hx => wj_WriteString pb l vd (ofBytes (Lib.itoa nn)) wx (HW.out.more hx) (by rw [ofBytes_size]; omega)
      go_enter Tryz.func124, Tryz.ntmps124
      go_upto_region 1 with fail
      simp only [← hW0]
      clear hW0
      go_wp2
      have hbx := HB0.out.lt
      go_region_held3 (fun w' => w'.cell? ⟨w.heap.size, 2, none⟩ = some (.int .i64 nn)) (first | exact f2 | exact hS1 | exact hS3) (first | (go_at_call 141; refine (c1 _ (by first | exact hTd | skip)).mono ?_; rintro e w1 ⟨rfl, b1⟩; have b1d : Below W0.heap.size W0 w1 := ((Below.refl W0.heap.size W0).drew).trans b1; have hS1 : w1.cell? ⟨w.heap.size, 2, none⟩ = some (.int .i64 nn) := (b1.cell (p := ⟨w.heap.size, 2, none⟩) hbx).trans f2) | (go_at_call 139; with_reducible refine (c2 _ b1d).mono ?_; rintro e w3 ⟨rfl, vd3, hW3, hC3⟩; have hS3 : w3.cell? ⟨w.heap.size, 2, none⟩ = some (.int .i64 nn) := by rw [World.cell?_of_block (hC3.block w.heap.size (Nat.lt_of_lt_of_le hbx b1d.size) HNO.out.1 HNO.out.2)]; exact hS1))
      go_wp2
      go_end0
      exact WrO.of (by simp [ofBytes]) hW3 (HC0.out.trans ((Cg.of vd b1d).trans hC3))
    · obtain rfl : TX = quoteJ ss.data.toList := HTX.out
      have c1 := wr_str pb vd l ss W0 hsz hsv (tabW_of HT.out HBW.out) HW.out (by omega)
      go_enter Tryz.func124, Tryz.ntmps124
      go_upto_region 1 with fail
      simp only [← hW0]
      clear hW0
      go_wp2_with fail
      refine c1.mono ?_
      rintro e w3 ⟨rfl, vd3, hW3, hC3⟩
      go_wp2
      go_end0
      exact WrO.of rfl hW3 (HC0.out.trans hC3)
    · have HX := Lib.hid (show TX = 91 :: (txVs true items ++ [93]) from HTX.out)
      have hlx : l.length + 1 + (txVs true items).length + 1 ≤ 100000000 := by
        have := congrArg List.length HX.out
        simp only [List.length_cons, List.length_append, List.length_nil] at this
        omega
      have c1 := wj_WriteByte pb l vd 91 91 rfl W0 HW.out (by omega)
      have hmf : ∀ (fn : Fn) (first cap : Array Value) (w : World), (Instr.makeFunc fn first cap).run Tryz.prog w = .ok (.func fn first cap) w := fun _ _ _ _ => rfl
      go_enter Tryz.func124, Tryz.ntmps124
      go_upto_region 1 with fail
      simp only [← hW0]
      clear hW0
      go_wp2_with fail
      refine c1.mono ?_
      rintro e w3 ⟨rfl, vd3, hW3, hC3⟩
      have hno3 := HNX.out _ _ hC3
      have B3 := hC3.blk HB0.out HNO.out.1 HNO.out.2
      have g4 := B3.cell 4
      have hbw3 := wst_below HBW.out hp HW.out hC3
      have hpw3 := hW3.lt
      have c2 := wr_joinV items p c wb pb HI.out HIM.out hil w3 vd3 (l ++ [91]) hbw3 hp HT.out hW3 (by rw [List.length_append, List.length_singleton]; omega)
      have HC3 := Lib.hid hC3
      clear c1 hC3 hW3 B3 hbw3 f0 f1 f2 f3 f4 f5
      go_wp2_with fail
      refine c2.mono ?_
      rintro e w4 ⟨rfl, vd4, hW4, hC4⟩
      have c3 := wj_WriteByte pb (l ++ [91] ++ txVs true items) vd4 93 93 rfl w4 hW4 (by simp only [List.length_append, List.length_singleton]; omega)
      have hpw4 := hW4.lt
      have HC4 := Lib.hid (HC3.out.trans hC4)
      clear c2 hW4 hC4 g4
      go_wp2_with fail
      refine c3.mono ?_
      rintro e w5 ⟨rfl, vd5, hW5, hC5⟩
      go_wp2
      go_end0
      exact WrO.of (by rw [HX.out]; simp) hW5 (HC0.out.trans (HC4.out.trans hC5))
    · have HX := Lib.hid (show TX = 123 :: (txMs true mems ++ [125]) from HTX.out)
      have hlx : l.length + 1 + (txMs true mems).length + 1 ≤ 100000000 := by
        have := congrArg List.length HX.out
        simp only [List.length_cons, List.length_append, List.length_nil] at this
        omega
      have c1 := wj_WriteByte pb l vd 123 123 rfl W0 HW.out (by omega)
      have hmf : ∀ (fn : Fn) (first cap : Array Value) (w : World), (Instr.makeFunc fn first cap).run Tryz.prog w = .ok (.func fn first cap) w := fun _ _ _ _ => rfl
      go_enter Tryz.func124, Tryz.ntmps124
      go_upto_region 1 with fail
      simp only [← hW0]
      clear hW0
      go_wp2_with fail
      refine c1.mono ?_
      rintro e w3 ⟨rfl, vd3, hW3, hC3⟩
      have hno3 := HNX.out _ _ hC3
      have B3 := hC3.blk HB0.out HNO.out.1 HNO.out.2
      have g5 := B3.cell 5
      have hbw3 := wst_below HBW.out hp HW.out hC3
      have hpw3 := hW3.lt
      have c2 := wr_joinM mems q d wb pb HM.out HMM.out hml w3 vd3 (l ++ [123]) hbw3 hp HT.out hW3 (by rw [List.length_append, List.length_singleton]; omega)
      have HC3 := Lib.hid hC3
      clear c1 hC3 hW3 B3 hbw3 f0 f1 f2 f3 f4 f5
      go_wp2_with fail
      refine c2.mono ?_
      rintro e w4 ⟨rfl, vd4, hW4, hC4⟩
      have c3 := wj_WriteByte pb (l ++ [123] ++ txMs true mems) vd4 125 125 rfl w4 hW4 (by simp only [List.length_append, List.length_singleton]; omega)
      have hpw4 := hW4.lt
      have HC4 := Lib.hid (HC3.out.trans hC4)
      clear c2 hW4 hC4 g5
      go_wp2_with fail
      refine c3.mono ?_
      rintro e w5 ⟨rfl, vd5, hW5, hC5⟩
      go_wp2
      go_end0
      exact WrO.of (by rw [HX.out]; simp) hW5 (HC0.out.trans (HC4.out.trans hC5))
theorem wv_all : ∀ f, WvC f
  | 0 => fun n _ hf => absurd (bulk_pos n) (by omega)
  | f + 1 => wv_step f (wv_all f)
end Go.Proofs.YtbfalppeifkjdaaGreatDoor
end
