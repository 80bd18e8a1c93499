/- Packed from the texts WrU. -/
import Derived.Test.YtppmoeidgefkpaaDoorVkR
import Derived.Test.YtppmoeidgefkpaaDoorVkU
section
namespace Go.Proofs.YtppmoeidgefkpaaDoor
open Go.RowKit
def nodeW (n : NodeD) (pa : Option Addr) (ca : Nat) (pk : Option Addr) (ck : Nat) : Value := .agg #[.int .i64 n.kind, .string n.sp, .string n.nm, .slice pa n.al.length ca, .slice pk n.kids.length ck, .string n.tx, .int .i64 n.at']
def BoxN (w : World) (b : Nat) (n : NodeD) (pa : Option Addr) (ca : Nat) (pk : Option Addr) (ck : Nat) : Prop := w.cell? ⟨b, 0, none⟩ = some (.int .i64 n.kind) ∧ w.cell? ⟨b, 1, none⟩ = some (.string n.sp) ∧ w.cell? ⟨b, 2, none⟩ = some (.string n.nm) ∧ w.cell? ⟨b, 3, none⟩ = some (.slice pa n.al.length ca) ∧ w.cell? ⟨b, 4, none⟩ = some (.slice pk n.kids.length ck) ∧ w.cell? ⟨b, 5, none⟩ = some (.string n.tx) ∧ w.cell? ⟨b, 6, none⟩ = some (.int .i64 n.at')
theorem BoxN.below {w w' : World} {b : Nat} {n : NodeD} {pa : Option Addr} {ca : Nat} {pk : Option Addr} {ck : Nat} (h : BoxN w b n pa ca pk ck) (hb : Below w.heap.size w w') : BoxN w' b n pa ca pk ck := by
  obtain ⟨h0, h1, h2, h3, h4, h5, h6⟩ := h
  exact ⟨(hb.cell (kblock_lt h0)).trans h0, (hb.cell (kblock_lt h1)).trans h1, (hb.cell (kblock_lt h2)).trans h2, (hb.cell (kblock_lt h3)).trans h3, (hb.cell (kblock_lt h4)).trans h4, (hb.cell (kblock_lt h5)).trans h5, (hb.cell (kblock_lt h6)).trans h6⟩
theorem BoxN.of {w : World} {b : Nat} {n : NodeD} {pa : Option Addr} {ca : Nat} {pk : Option Addr} {ck : Nat} (h : Blk w b #[.int .i64 n.kind, .string n.sp, .string n.nm, .slice pa n.al.length ca, .slice pk n.kids.length ck, .string n.tx, .int .i64 n.at'] 25) : BoxN w b n pa ca pk ck :=
  ⟨h.cell 0, h.cell 1, h.cell 2, h.cell 3, h.cell 4, h.cell 5, h.cell 6⟩
structure Two (w0 : World) (n m : NodeD) (pa : Option Addr) (ca : Nat) (pk : Option Addr) (ck : Nat) (qa : Option Addr) (da : Nat) (qk : Option Addr) (dk : Nat) (w : World) : Prop where
  bn : BoxN w w0.heap.size n pa ca pk ck
  bm : BoxN w (w0.heap.size + 1) m qa da qk dk
  nn : NodeIs w n (nodeW n pa ca pk ck)
  nm : NodeIs w m (nodeW m qa da qk dk)
  base : Below w0.heap.size w0 w
  tabs : HasTabs w
theorem Two.more {w0 w w' : World} {n m : NodeD} {pa : Option Addr} {ca : Nat} {pk : Option Addr} {ck : Nat} {qa : Option Addr} {da : Nat} {qk : Option Addr} {dk : Nat} (h : Two w0 n m pa ca pk ck qa da qk dk w) (hb : Below w.heap.size w w') : Two w0 n m pa ca pk ck qa da qk dk w' :=
  ⟨h.bn.below hb, h.bm.below hb, h.nn.below hb, h.nm.below hb, h.base.trans (hb.mono h.base.size), HasTabs_below h.tabs hb⟩
set_option maxRecDepth 100000 in
set_option maxHeartbeats 16000000 in
theorem walk_WrInj (n m : NodeD) (pa : Option Addr) (ca : Nat) (pk : Option Addr) (ck : Nat) (qa : Option Addr) (da : Nat) (qk : Option Addr) (dk : Nat) (w : World) (hT : HasTabs w) (hn : NodeIs w n (nodeW n pa ca pk ck)) (hm : NodeIs w m (nodeW m qa da qk dk)) (hw : n.WF) (hw2 : m.WF) : Calls Tryd.prog 5 #[nodeW n pa ca pk ck, nodeW m qa da qk dk] w fun e w' => e = .returned (.bool true) ∧ Below w.heap.size w w' := by
  obtain ⟨W, hW⟩ : ∃ W, W = (w.alloc (.cells #[.int .i64 n.kind, .string n.sp, .string n.nm, .slice pa n.al.length ca, .slice pk n.kids.length ck, .string n.tx, .int .i64 n.at'] 25)).alloc (.cells #[.int .i64 m.kind, .string m.sp, .string m.nm, .slice qa m.al.length da, .slice qk m.kids.length dk, .string m.tx, .int .i64 m.at'] 25) := ⟨_, rfl⟩
  have T0 : Two w n m pa ca pk ck qa da qk dk W := by
    have b1 : Below w.heap.size w (w.alloc (.cells #[.int .i64 n.kind, .string n.sp, .string n.nm, .slice pa n.al.length ca, .slice pk n.kids.length ck, .string n.tx, .int .i64 n.at'] 25)) := (Below.refl _ _).alloc (Nat.le_refl _) _
    have hz : (w.alloc (.cells #[.int .i64 n.kind, .string n.sp, .string n.nm, .slice pa n.al.length ca, .slice pk n.kids.length ck, .string n.tx, .int .i64 n.at'] 25)).heap.size = w.heap.size + 1 := by simp
    have b2 : Below (w.alloc (.cells #[.int .i64 n.kind, .string n.sp, .string n.nm, .slice pa n.al.length ca, .slice pk n.kids.length ck, .string n.tx, .int .i64 n.at'] 25)).heap.size (w.alloc (.cells #[.int .i64 n.kind, .string n.sp, .string n.nm, .slice pa n.al.length ca, .slice pk n.kids.length ck, .string n.tx, .int .i64 n.at'] 25)) W := by rw [hW]; exact (Below.refl _ _).alloc (Nat.le_refl _) _
    have hb : Below w.heap.size w W := b1.trans (b2.mono (by omega))
    have P1 := (Blk.new w #[.int .i64 n.kind, .string n.sp, .string n.nm, .slice pa n.al.length ca, .slice pk n.kids.length ck, .string n.tx, .int .i64 n.at'] 25).more b2
    have P2 := Blk.new (w.alloc (.cells #[.int .i64 n.kind, .string n.sp, .string n.nm, .slice pa n.al.length ca, .slice pk n.kids.length ck, .string n.tx, .int .i64 n.at'] 25)) #[.int .i64 m.kind, .string m.sp, .string m.nm, .slice qa m.al.length da, .slice qk m.kids.length dk, .string m.tx, .int .i64 m.at'] 25
    rw [hz, ← hW] at P2
    exact ⟨BoxN.of P1, BoxN.of P2, hn.below hb, hm.below hb, hb, HasTabs_below hT hb⟩
  have HT0 := Lib.hid T0
  have cL1 := fun wx h => law_TooLarge n (nodeW n pa ca pk ck) wx hw h
  have cL2 := fun wx h => law_TooLarge m (nodeW m qa da qk dk) wx hw2 h
  have cA : ∀ wx, HasTabs wx → _ := fun wx h => wr_alive wx h
  obtain ⟨f0, f1, f2, f3, f4, f5, f6⟩ := T0.bn
  unfold nodeW at cL1 cL2 ⊢
  clear T0 hn hm hT hw hw2
  by_cases hb1 : 5000 < n.wgt 0
  · rw [one_yes hb1] at cL1
    clear hb1 cL2
    go_enter Tryd.func5, Tryd.ntmps5
    go_upto_region 1 with fail
    simp only [← hW]
    clear hW
    go_wp2_with fail
    refine (cL1 _ HT0.out.nn).mono ?_
    rintro e w1 ⟨rfl, b1⟩
    have T1 := HT0.out.more b1
    go_wp2_with fail
    refine (cA _ T1.tabs).mono ?_
    rintro e w2 ⟨rfl, b2⟩
    have B2 := (T1.more b2).base
    go_wp2
    go_ret
    exact ⟨rfl, B2⟩
  have hm1 := mass_of hb1
  rw [one_no hb1] at cL1
  have cC1 := fun wx h => wref_Check n (nodeW n pa ca pk ck) wx (by omega) h
  unfold nodeW at cC1
  by_cases hb2 : 5000 < m.wgt 0
  · rw [one_yes hb2] at cL2
    clear hb1 hb2 hm1 cC1
    go_enter Tryd.func5, Tryd.ntmps5
    go_upto_region 1 with fail
    simp only [← hW]
    clear hW
    go_wp2_with fail
    refine (cL1 _ HT0.out.nn).mono ?_
    rintro e w1 ⟨rfl, b1⟩
    have T1 := HT0.out.more b1
    obtain ⟨g0, g1, g2, g3, g4, g5, g6⟩ := T1.bm
    go_wp2_with fail
    refine (cL2 _ T1.nm).mono ?_
    rintro e w2 ⟨rfl, b2⟩
    have T2 := T1.more b2
    go_wp2_with fail
    refine (cA _ T2.tabs).mono ?_
    rintro e w3 ⟨rfl, b3⟩
    have B3 := (T2.more b3).base
    go_wp2
    go_ret
    exact ⟨rfl, B3⟩
  have hm2 := mass_of hb2
  rw [one_no hb2] at cL2
  have cC2 := fun wx h => wref_Check m (nodeW m qa da qk dk) wx (by omega) h
  unfold nodeW at cC2
  by_cases he1 : errP n = 0
  case neg =>
    have q1 : (errP n != 0) = true := by simpa using he1
    generalize errP n = EN at *
    clear hb1 hb2 hm1 hm2 he1 cC2
    go_enter Tryd.func5, Tryd.ntmps5
    go_upto_region 1 with fail
    simp only [← hW]
    clear hW
    go_wp2_with fail
    refine (cL1 _ HT0.out.nn).mono ?_
    rintro e w1 ⟨rfl, b1⟩
    have T1 := HT0.out.more b1
    obtain ⟨g0, g1, g2, g3, g4, g5, g6⟩ := T1.bm
    go_wp2_with fail
    refine (cL2 _ T1.nm).mono ?_
    rintro e w2 ⟨rfl, b2⟩
    have T2 := T1.more b2
    obtain ⟨h0, h1, h2, h3, h4, h5, h6⟩ := T2.bn
    go_wp2_with fail
    refine (cC1 _ T2.nn).mono ?_
    rintro e w3 ⟨rfl, b3⟩
    have T3 := T2.more b3
    go_wp2_with fail
    refine (cA _ T3.tabs).mono ?_
    rintro e w4 ⟨rfl, b4⟩
    have B4 := (T3.more b4).base
    go_wp2
    go_ret
    exact ⟨rfl, B4⟩
  have hg1 := good_err.2 he1
  rw [he1] at cC1
  by_cases he2 : errP m = 0
  case neg =>
    have q1 : (errP m != 0) = true := by simpa using he2
    generalize errP m = EM at *
    clear hb1 hb2 hm1 hm2 he1 he2 hg1
    go_enter Tryd.func5, Tryd.ntmps5
    go_upto_region 1 with fail
    simp only [← hW]
    clear hW
    go_wp2_with fail
    refine (cL1 _ HT0.out.nn).mono ?_
    rintro e w1 ⟨rfl, b1⟩
    have T1 := HT0.out.more b1
    obtain ⟨g0, g1, g2, g3, g4, g5, g6⟩ := T1.bm
    go_wp2_with fail
    refine (cL2 _ T1.nm).mono ?_
    rintro e w2 ⟨rfl, b2⟩
    have T2 := T1.more b2
    obtain ⟨h0, h1, h2, h3, h4, h5, h6⟩ := T2.bn
    go_wp2_with fail
    refine (cC1 _ T2.nn).mono ?_
    rintro e w3 ⟨rfl, b3⟩
    have T3 := T2.more b3
    obtain ⟨k0, k1, k2, k3, k4, k5, k6⟩ := T3.bm
    go_wp2_with fail
    refine (cC2 _ T3.nm).mono ?_
    rintro e w4 ⟨rfl, b4⟩
    have T4 := T3.more b4
    go_wp2_with fail
    refine (cA _ T4.tabs).mono ?_
    rintro e w5 ⟨rfl, b5⟩
    have B5 := (T4.more b5).base
    go_wp2
    go_ret
    exact ⟨rfl, B5⟩
  have hg2 := good_err.2 he2
  rw [he2] at cC2
  have cW1 := fun wx ht h => xw_Write n (nodeW n pa ca pk ck) wx (by omega) ht h
  have cW2 := fun wx ht h => xw_Write m (nodeW m qa da qk dk) wx (by omega) ht h
  have hwt := (not_large hb1).1
  have cE := fun wx h1 h2 => tref_Equal false n.wt n m (nodeW n pa ca pk ck) (nodeW m qa da qk dk) wx (Nat.le_refl _) (by omega) h1 h2
  rw [he1] at cW1
  rw [he2] at cW2
  unfold nodeW at cW1 cW2 cE
  have hfin : ((writeP n).toList == (writeP m).toList) = n.eqB false m := by
    cases h : n.eqB false m
    · exact str_ne2 (fun e => by rw [write_inj hg1 hg2 e] at h; cases h)
    · rw [(eq_write h).1]; simp
  have HF := Lib.hid hfin
  generalize n.eqB false m = EQ at *
  generalize writeP n = SN at *
  generalize writeP m = SM at *
  clear hb1 hb2 hm1 hm2 he1 he2 hg1 hg2 hwt hfin
  go_enter Tryd.func5, Tryd.ntmps5
  go_upto_region 1 with fail
  simp only [← hW]
  clear hW
  go_wp2_with fail
  refine (cL1 _ HT0.out.nn).mono ?_
  rintro e w1 ⟨rfl, b1⟩
  have T1 := HT0.out.more b1
  obtain ⟨g0, g1, g2, g3, g4, g5, g6⟩ := T1.bm
  clear f0 f1 f2 f3 f4 f5 f6 cL1
  go_wp2_with fail
  refine (cL2 _ T1.nm).mono ?_
  rintro e w2 ⟨rfl, b2⟩
  have T2 := T1.more b2
  obtain ⟨h0, h1, h2, h3, h4, h5, h6⟩ := T2.bn
  clear g0 g1 g2 g3 g4 g5 g6 cL2 T1 b1 b2
  go_wp2_with fail
  refine (cC1 _ T2.nn).mono ?_
  rintro e w3 ⟨rfl, b3⟩
  have T3 := T2.more b3
  obtain ⟨k0, k1, k2, k3, k4, k5, k6⟩ := T3.bm
  clear h0 h1 h2 h3 h4 h5 h6 cC1 T2 b3
  go_wp2_with fail
  refine (cC2 _ T3.nm).mono ?_
  rintro e w4 ⟨rfl, b4⟩
  have T4 := T3.more b4
  obtain ⟨h0, h1, h2, h3, h4, h5, h6⟩ := T4.bn
  clear k0 k1 k2 k3 k4 k5 k6 cC2 T3 b4
  go_wp2_with fail
  refine (cW1 _ T4.tabs T4.nn).mono ?_
  rintro e w5 ⟨rfl, b5⟩
  have T5 := T4.more b5
  obtain ⟨k0, k1, k2, k3, k4, k5, k6⟩ := T5.bm
  clear h0 h1 h2 h3 h4 h5 h6 cW1 T4 b5
  go_wp2_with fail
  refine (cW2 _ T5.tabs T5.nm).mono ?_
  rintro e w6 ⟨rfl, b6⟩
  have T6 := T5.more b6
  clear k0 k1 k2 k3 k4 k5 k6 cW2 T5 b6
  go_wp2_with fail
  refine (cA _ T6.tabs).mono ?_
  rintro e w7 ⟨rfl, b7⟩
  have T7 := T6.more b7
  obtain ⟨h0, h1, h2, h3, h4, h5, h6⟩ := T7.bn
  obtain ⟨k0, k1, k2, k3, k4, k5, k6⟩ := T7.bm
  clear cA T6 b7
  go_wp2_with fail
  refine (cE _ T7.nn T7.nm).mono ?_
  rintro e w8 ⟨rfl, b8⟩
  have B8 := (T7.more b8).base
  go_wp2
  go_ret
  exact ⟨trN (by rw [HF.out]; simp), B8⟩
end Go.Proofs.YtppmoeidgefkpaaDoor
end
