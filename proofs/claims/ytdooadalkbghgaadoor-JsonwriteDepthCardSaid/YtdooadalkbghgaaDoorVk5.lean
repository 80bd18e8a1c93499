/- Packed from the texts JwV. -/
import Derived.Test.YtdooadalkbghgaaDoorVJzC
import Derived.Test.YtdooadalkbghgaaDoorVk2
import Derived.Test.YtdooadalkbghgaaDoorVkY
section
namespace Go.Proofs.YtdooadalkbghgaaDoor
open Go.RowKit
theorem chk_depth {n : ValD} (h : chkZ n = 0) : n.depth ≤ 100 := by
  unfold chkZ at h
  split at h
  · rename_i hv
    unfold validB at hv
    rw [Bool.and_eq_true] at hv
    exact of_decide_eq_true hv.2
  · cases h
theorem str_texts (a b : List UInt8) : decide (ofBytes a = ofBytes b) = decide (a = b) := by
  refine decide_eq_decide.2 ⟨fun h => ?_, fun h => by rw [h]⟩
  have := congrArg (fun s : ByteArray => s.data.toList) h
  simpa [ofBytes_list] using this
theorem str_same (a b : ByteArray) : (a.toList == b.toList) = decide (a = b) := by
  by_cases h : a = b
  · rw [decide_eq_true h, h, beq_self_eq_true]
  · rw [decide_eq_false h]
    refine beq_eq_false_iff_ne.2 fun e => h ?_
    rw [ByteArray.toList_eq, ByteArray.toList_eq] at e
    exact ByteArray.ext (Array.ext' e)
set_option maxRecDepth 100000 in
set_option maxHeartbeats 64000000 in
theorem walk_JwMatches (n : ValD) (p1 : Option Addr) (c1 : Nat) (q1 : Option Addr) (d1 : Nat) (w : World) (hT : TabW w) (hn : ValIs w n (.agg #[.int .i64 n.kind, .bool n.b, .int .i64 n.n, .string n.s, .slice p1 n.items.length c1, .slice q1 n.mems.length d1, .int .i64 n.at'])) (hWn : n.WF) (hR : n.R64) : Calls Tryd.prog 3 #[(.agg #[.int .i64 n.kind, .bool n.b, .int .i64 n.n, .string n.s, .slice p1 n.items.length c1, .slice q1 n.mems.length d1, .int .i64 n.at'])] w fun e w' => e = .returned (.bool true) ∧ Below w.heap.size w w' := by
  have cA : ∀ wx, TabW wx → _ := fun wx ht => jw_alive wx ht
  have cLn := fun wx h => law_TooLargeJ n (.agg #[.int .i64 n.kind, .bool n.b, .int .i64 n.n, .string n.s, .slice p1 n.items.length c1, .slice q1 n.mems.length d1, .int .i64 n.at']) wx hWn h
  obtain ⟨W2, hW2⟩ : ∃ W2, W2 = w.alloc (.cells #[.int .i64 n.kind, .bool n.b, .int .i64 n.n, .string n.s, .slice p1 n.items.length c1, .slice q1 n.mems.length d1, .int .i64 n.at'] 25) := ⟨_, rfl⟩
  have b2 : Below w.heap.size w W2 := by rw [hW2]; exact (Below.refl _ _).alloc (Nat.le_refl _) _
  have X1 : JBox W2 w.heap.size n p1 c1 q1 d1 := by rw [hW2]; exact JBox.of (Bj.new w #[.int .i64 n.kind, .bool n.b, .int .i64 n.n, .string n.s, .slice p1 n.items.length c1, .slice q1 n.mems.length d1, .int .i64 n.at'] 25)
  have N2 := ValIs.below b2 _ _ hn
  have t2 := TabW_below hT b2
  have HB := Lib.hid b2
  obtain ⟨f0, f1, f2, f3, f4, f5, f6⟩ := id X1
  have HX1 := Lib.hid X1
  have HN1 := Lib.hid N2
  clear X1 b2 hn hT
  by_cases h1 : 5000 < n.wgt 0
  · rw [decide_eq_true h1, show oneIfJ true = 1 from rfl] at cLn
    clear h1
    go_enter Tryd.func3, Tryd.ntmps3
    go_upto_region 1 with fail
    simp only [← hW2]
    clear hW2
    have cL1 := cLn _ HN1.out
    go_wp2_with fail
    refine cL1.mono ?_
    rintro e w3 ⟨rfl, bw3⟩
    replace HB := Lib.hid (HB.out.trans (bw3.mono HB.out.size))
    replace t2 := TabW_below t2 bw3
    replace HX1 := Lib.hid (HX1.out.below bw3)
    replace HN1 := Lib.hid (ValIs.below bw3 _ _ HN1.out)
    clear f0 f1 f2 f3 f4 f5 f6
    obtain ⟨f0, f1, f2, f3, f4, f5, f6⟩ := id HX1.out
    clear bw3
    clear cL1 cLn
    go_wp2_with fail
    refine (cA _ t2).mono ?_
    rintro e w4 ⟨rfl, bw4⟩
    replace HB := Lib.hid (HB.out.trans (bw4.mono HB.out.size))
    replace t2 := TabW_below t2 bw4
    replace HX1 := Lib.hid (HX1.out.below bw4)
    replace HN1 := Lib.hid (ValIs.below bw4 _ _ HN1.out)
    clear f0 f1 f2 f3 f4 f5 f6
    obtain ⟨f0, f1, f2, f3, f4, f5, f6⟩ := id HX1.out
    clear bw4
    go_wp2
    go_ret
    exact ⟨rfl, HB.out⟩
  · have hbk : n.bulk ≤ 1000000 := Nat.le_trans (not_large_bulk h1) (by decide)
    rw [decide_eq_false h1, show oneIfJ false = 0 from rfl] at cLn
    have cW := fun wx ht h => jw_Write n (.agg #[.int .i64 n.kind, .bool n.b, .int .i64 n.n, .string n.s, .slice p1 n.items.length c1, .slice q1 n.mems.length d1, .int .i64 n.at']) wx hbk hR ht h
    have cR := fun wx h => jref_WriteW n (.agg #[.int .i64 n.kind, .bool n.b, .int .i64 n.n, .string n.s, .slice p1 n.items.length c1, .slice q1 n.mems.length d1, .int .i64 n.at']) wx hbk hR h
    have cC := fun wx (ht : TabW wx) h => jw_Check n (.agg #[.int .i64 n.kind, .bool n.b, .int .i64 n.n, .string n.s, .slice p1 n.items.length c1, .slice q1 n.mems.length d1, .int .i64 n.at']) wx hbk ht.1 h
    generalize wrZ n = S at cW cR
    generalize chkZ n = z at cW cR cC
    clear h1 hbk
    go_enter Tryd.func3, Tryd.ntmps3
    go_upto_region 1 with fail
    simp only [← hW2]
    clear hW2
    have cL1 := cLn _ HN1.out
    go_wp2_with fail
    refine cL1.mono ?_
    rintro e w3 ⟨rfl, bw3⟩
    replace HB := Lib.hid (HB.out.trans (bw3.mono HB.out.size))
    replace t2 := TabW_below t2 bw3
    replace HX1 := Lib.hid (HX1.out.below bw3)
    replace HN1 := Lib.hid (ValIs.below bw3 _ _ HN1.out)
    clear f0 f1 f2 f3 f4 f5 f6
    obtain ⟨f0, f1, f2, f3, f4, f5, f6⟩ := id HX1.out
    clear bw3
    clear cL1 cLn
    have cL1 := cW _ t2 HN1.out
    go_wp2_with fail
    refine cL1.mono ?_
    rintro e w4 ⟨rfl, bw4⟩
    replace HB := Lib.hid (HB.out.trans (bw4.mono HB.out.size))
    replace t2 := TabW_below t2 bw4
    replace HX1 := Lib.hid (HX1.out.below bw4)
    replace HN1 := Lib.hid (ValIs.below bw4 _ _ HN1.out)
    clear f0 f1 f2 f3 f4 f5 f6
    obtain ⟨f0, f1, f2, f3, f4, f5, f6⟩ := id HX1.out
    clear bw4
    clear cL1 cW
    have cL1 := cR _ HN1.out
    go_wp2_with fail
    refine cL1.mono ?_
    rintro e w5 ⟨rfl, bw5⟩
    replace HB := Lib.hid (HB.out.trans (bw5.mono HB.out.size))
    replace t2 := TabW_below t2 bw5
    replace HX1 := Lib.hid (HX1.out.below bw5)
    replace HN1 := Lib.hid (ValIs.below bw5 _ _ HN1.out)
    clear f0 f1 f2 f3 f4 f5 f6
    obtain ⟨f0, f1, f2, f3, f4, f5, f6⟩ := id HX1.out
    clear bw5
    clear cL1 cR
    have cL1 := cA _ t2
    go_wp2_with fail
    refine cL1.mono ?_
    rintro e w6 ⟨rfl, bw6⟩
    replace HB := Lib.hid (HB.out.trans (bw6.mono HB.out.size))
    replace t2 := TabW_below t2 bw6
    replace HX1 := Lib.hid (HX1.out.below bw6)
    replace HN1 := Lib.hid (ValIs.below bw6 _ _ HN1.out)
    clear f0 f1 f2 f3 f4 f5 f6
    obtain ⟨f0, f1, f2, f3, f4, f5, f6⟩ := id HX1.out
    clear bw6
    clear cL1 cA
    have cL1 := cC _ t2 HN1.out
    go_wp2_with fail
    refine cL1.mono ?_
    rintro e w7 ⟨rfl, bw7⟩
    replace HB := Lib.hid (HB.out.trans (bw7.mono HB.out.size))
    replace t2 := TabW_below t2 bw7
    replace HX1 := Lib.hid (HX1.out.below bw7)
    replace HN1 := Lib.hid (ValIs.below bw7 _ _ HN1.out)
    clear f0 f1 f2 f3 f4 f5 f6
    obtain ⟨f0, f1, f2, f3, f4, f5, f6⟩ := id HX1.out
    clear bw7
    go_wp2
    go_ret
    exact ⟨by simp, HB.out⟩
set_option maxRecDepth 100000 in
set_option maxHeartbeats 64000000 in
theorem walk_JwInjective (n m : ValD) (p1 : Option Addr) (c1 : Nat) (q1 : Option Addr) (d1 : Nat) (p2 : Option Addr) (c2 : Nat) (q2 : Option Addr) (d2 : Nat) (w : World) (hT : TabW w) (hn : ValIs w n (.agg #[.int .i64 n.kind, .bool n.b, .int .i64 n.n, .string n.s, .slice p1 n.items.length c1, .slice q1 n.mems.length d1, .int .i64 n.at'])) (hm : ValIs w m (.agg #[.int .i64 m.kind, .bool m.b, .int .i64 m.n, .string m.s, .slice p2 m.items.length c2, .slice q2 m.mems.length d2, .int .i64 m.at'])) (hWn : n.WF) (hWm : m.WF) (hR : n.R64) (hRm : m.R64) : Calls Tryd.prog 5 #[(.agg #[.int .i64 n.kind, .bool n.b, .int .i64 n.n, .string n.s, .slice p1 n.items.length c1, .slice q1 n.mems.length d1, .int .i64 n.at']), (.agg #[.int .i64 m.kind, .bool m.b, .int .i64 m.n, .string m.s, .slice p2 m.items.length c2, .slice q2 m.mems.length d2, .int .i64 m.at'])] w fun e w' => e = .returned (.bool true) ∧ Below w.heap.size w w' := by
  have cA : ∀ wx, TabW wx → _ := fun wx ht => jw_alive wx ht
  have cLn := fun wx h => law_TooLargeJ n (.agg #[.int .i64 n.kind, .bool n.b, .int .i64 n.n, .string n.s, .slice p1 n.items.length c1, .slice q1 n.mems.length d1, .int .i64 n.at']) wx hWn h
  have cLm := fun wx h => law_TooLargeJ m (.agg #[.int .i64 m.kind, .bool m.b, .int .i64 m.n, .string m.s, .slice p2 m.items.length c2, .slice q2 m.mems.length d2, .int .i64 m.at']) wx hWm h
  obtain ⟨W2, hW2⟩ : ∃ W2, W2 = (w.alloc (.cells #[.int .i64 n.kind, .bool n.b, .int .i64 n.n, .string n.s, .slice p1 n.items.length c1, .slice q1 n.mems.length d1, .int .i64 n.at'] 25)).alloc (.cells #[.int .i64 m.kind, .bool m.b, .int .i64 m.n, .string m.s, .slice p2 m.items.length c2, .slice q2 m.mems.length d2, .int .i64 m.at'] 25) := ⟨_, rfl⟩
  have b1 : Below w.heap.size w (w.alloc (.cells #[.int .i64 n.kind, .bool n.b, .int .i64 n.n, .string n.s, .slice p1 n.items.length c1, .slice q1 n.mems.length d1, .int .i64 n.at'] 25)) := (Below.refl _ _).alloc (Nat.le_refl _) _
  have hz1 : (w.alloc (.cells #[.int .i64 n.kind, .bool n.b, .int .i64 n.n, .string n.s, .slice p1 n.items.length c1, .slice q1 n.mems.length d1, .int .i64 n.at'] 25)).heap.size = w.heap.size + 1 := by simp
  have b12 : Below (w.alloc (.cells #[.int .i64 n.kind, .bool n.b, .int .i64 n.n, .string n.s, .slice p1 n.items.length c1, .slice q1 n.mems.length d1, .int .i64 n.at'] 25)).heap.size (w.alloc (.cells #[.int .i64 n.kind, .bool n.b, .int .i64 n.n, .string n.s, .slice p1 n.items.length c1, .slice q1 n.mems.length d1, .int .i64 n.at'] 25)) W2 := by rw [hW2]; exact (Below.refl _ _).alloc (Nat.le_refl _) _
  have b2 : Below w.heap.size w W2 := b1.trans (b12.mono b1.size)
  have X1 : JBox W2 w.heap.size n p1 c1 q1 d1 := (JBox.of (Bj.new w #[.int .i64 n.kind, .bool n.b, .int .i64 n.n, .string n.s, .slice p1 n.items.length c1, .slice q1 n.mems.length d1, .int .i64 n.at'] 25)).below b12
  have X2 : JBox W2 (w.heap.size + 1) m p2 c2 q2 d2 := by
    have := JBox.of (Bj.new (w.alloc (.cells #[.int .i64 n.kind, .bool n.b, .int .i64 n.n, .string n.s, .slice p1 n.items.length c1, .slice q1 n.mems.length d1, .int .i64 n.at'] 25)) #[.int .i64 m.kind, .bool m.b, .int .i64 m.n, .string m.s, .slice p2 m.items.length c2, .slice q2 m.mems.length d2, .int .i64 m.at'] 25)
    rw [hz1] at this
    rw [hW2]
    exact this
  have N2 := ValIs.below b2 _ _ hn
  have M2 := ValIs.below b2 _ _ hm
  have t2 := TabW_below hT b2
  have HB := Lib.hid b2
  obtain ⟨f0, f1, f2, f3, f4, f5, f6⟩ := id X1
  obtain ⟨g0, g1, g2, g3, g4, g5, g6⟩ := id X2
  have HX1 := Lib.hid X1
  have HX2 := Lib.hid X2
  have HN1 := Lib.hid N2
  have HM1 := Lib.hid M2
  clear X1 X2 b1 b12 b2 hz1 hn hm hT
  by_cases h1 : 5000 < n.wgt 0
  · rw [decide_eq_true h1, show oneIfJ true = 1 from rfl] at cLn
    clear h1 cLm
    go_enter Tryd.func5, Tryd.ntmps5
    go_upto_region 1 with fail
    simp only [← hW2]
    clear hW2
    have cL1 := cLn _ HN1.out
    go_wp2_with fail
    refine cL1.mono ?_
    rintro e w3 ⟨rfl, bw3⟩
    replace HB := Lib.hid (HB.out.trans (bw3.mono HB.out.size))
    replace t2 := TabW_below t2 bw3
    replace HX1 := Lib.hid (HX1.out.below bw3)
    replace HN1 := Lib.hid (ValIs.below bw3 _ _ HN1.out)
    clear f0 f1 f2 f3 f4 f5 f6
    obtain ⟨f0, f1, f2, f3, f4, f5, f6⟩ := id HX1.out
    replace HX2 := Lib.hid (HX2.out.below bw3)
    replace HM1 := Lib.hid (ValIs.below bw3 _ _ HM1.out)
    clear g0 g1 g2 g3 g4 g5 g6
    obtain ⟨g0, g1, g2, g3, g4, g5, g6⟩ := id HX2.out
    clear bw3
    clear cL1 cLn
    go_wp2_with fail
    refine (cA _ t2).mono ?_
    rintro e w4 ⟨rfl, bw4⟩
    replace HB := Lib.hid (HB.out.trans (bw4.mono HB.out.size))
    replace t2 := TabW_below t2 bw4
    replace HX1 := Lib.hid (HX1.out.below bw4)
    replace HN1 := Lib.hid (ValIs.below bw4 _ _ HN1.out)
    clear f0 f1 f2 f3 f4 f5 f6
    obtain ⟨f0, f1, f2, f3, f4, f5, f6⟩ := id HX1.out
    replace HX2 := Lib.hid (HX2.out.below bw4)
    replace HM1 := Lib.hid (ValIs.below bw4 _ _ HM1.out)
    clear g0 g1 g2 g3 g4 g5 g6
    obtain ⟨g0, g1, g2, g3, g4, g5, g6⟩ := id HX2.out
    clear bw4
    go_wp2
    go_ret
    exact ⟨rfl, HB.out⟩
  rw [decide_eq_false h1, show oneIfJ false = 0 from rfl] at cLn
  by_cases h2 : 5000 < m.wgt 0
  · rw [decide_eq_true h2, show oneIfJ true = 1 from rfl] at cLm
    clear h1 h2
    go_enter Tryd.func5, Tryd.ntmps5
    go_upto_region 1 with fail
    simp only [← hW2]
    clear hW2
    have cL1 := cLn _ HN1.out
    go_wp2_with fail
    refine cL1.mono ?_
    rintro e w3 ⟨rfl, bw3⟩
    replace HB := Lib.hid (HB.out.trans (bw3.mono HB.out.size))
    replace t2 := TabW_below t2 bw3
    replace HX1 := Lib.hid (HX1.out.below bw3)
    replace HN1 := Lib.hid (ValIs.below bw3 _ _ HN1.out)
    clear f0 f1 f2 f3 f4 f5 f6
    obtain ⟨f0, f1, f2, f3, f4, f5, f6⟩ := id HX1.out
    replace HX2 := Lib.hid (HX2.out.below bw3)
    replace HM1 := Lib.hid (ValIs.below bw3 _ _ HM1.out)
    clear g0 g1 g2 g3 g4 g5 g6
    obtain ⟨g0, g1, g2, g3, g4, g5, g6⟩ := id HX2.out
    clear bw3
    clear cL1 cLn
    have cL1 := cLm _ HM1.out
    go_wp2_with fail
    refine cL1.mono ?_
    rintro e w4 ⟨rfl, bw4⟩
    replace HB := Lib.hid (HB.out.trans (bw4.mono HB.out.size))
    replace t2 := TabW_below t2 bw4
    replace HX1 := Lib.hid (HX1.out.below bw4)
    replace HN1 := Lib.hid (ValIs.below bw4 _ _ HN1.out)
    clear f0 f1 f2 f3 f4 f5 f6
    obtain ⟨f0, f1, f2, f3, f4, f5, f6⟩ := id HX1.out
    replace HX2 := Lib.hid (HX2.out.below bw4)
    replace HM1 := Lib.hid (ValIs.below bw4 _ _ HM1.out)
    clear g0 g1 g2 g3 g4 g5 g6
    obtain ⟨g0, g1, g2, g3, g4, g5, g6⟩ := id HX2.out
    clear bw4
    clear cL1 cLm
    go_wp2_with fail
    refine (cA _ t2).mono ?_
    rintro e w5 ⟨rfl, bw5⟩
    replace HB := Lib.hid (HB.out.trans (bw5.mono HB.out.size))
    replace t2 := TabW_below t2 bw5
    replace HX1 := Lib.hid (HX1.out.below bw5)
    replace HN1 := Lib.hid (ValIs.below bw5 _ _ HN1.out)
    clear f0 f1 f2 f3 f4 f5 f6
    obtain ⟨f0, f1, f2, f3, f4, f5, f6⟩ := id HX1.out
    replace HX2 := Lib.hid (HX2.out.below bw5)
    replace HM1 := Lib.hid (ValIs.below bw5 _ _ HM1.out)
    clear g0 g1 g2 g3 g4 g5 g6
    obtain ⟨g0, g1, g2, g3, g4, g5, g6⟩ := id HX2.out
    clear bw5
    go_wp2
    go_ret
    exact ⟨rfl, HB.out⟩
  rw [decide_eq_false h2, show oneIfJ false = 0 from rfl] at cLm
  have bn : n.bulk ≤ 1000000 := Nat.le_trans (not_large_bulk h1) (by decide)
  have bm : m.bulk ≤ 1000000 := Nat.le_trans (not_large_bulk h2) (by decide)
  clear h1 h2
  have cCn := fun wx h => jref_CheckW n (.agg #[.int .i64 n.kind, .bool n.b, .int .i64 n.n, .string n.s, .slice p1 n.items.length c1, .slice q1 n.mems.length d1, .int .i64 n.at']) wx bn h
  have cCm := fun wx h => jref_CheckW m (.agg #[.int .i64 m.kind, .bool m.b, .int .i64 m.n, .string m.s, .slice p2 m.items.length c2, .slice q2 m.mems.length d2, .int .i64 m.at']) wx bm h
  rcases wrP n with ⟨z1, s1, o1⟩ | ⟨z1, s1⟩
  · rcases wrP m with ⟨z2, s2, o2⟩ | ⟨z2, s2⟩
    · have hq := jtext_inj n m o1 o2 hR hRm (chk_depth z1) (chk_depth z2)
      have cWn := fun wx ht h => jw_Write n (.agg #[.int .i64 n.kind, .bool n.b, .int .i64 n.n, .string n.s, .slice p1 n.items.length c1, .slice q1 n.mems.length d1, .int .i64 n.at']) wx bn hR ht h
      have cWm := fun wx ht h => jw_Write m (.agg #[.int .i64 m.kind, .bool m.b, .int .i64 m.n, .string m.s, .slice p2 m.items.length c2, .slice q2 m.mems.length d2, .int .i64 m.at']) wx bm hRm ht h
      have cE := fun wx h h' => jref_Equal false n.cnt n m (.agg #[.int .i64 n.kind, .bool n.b, .int .i64 n.n, .string n.s, .slice p1 n.items.length c1, .slice q1 n.mems.length d1, .int .i64 n.at']) (.agg #[.int .i64 m.kind, .bool m.b, .int .i64 m.n, .string m.s, .slice p2 m.items.length c2, .slice q2 m.mems.length d2, .int .i64 m.at']) wx (Nat.le_refl _) (Nat.le_trans (cnt_bulk n) (Nat.le_trans bn (by decide))) h h'
      rw [z1] at cCn cWn
      rw [z2] at cCm cWm
      rw [s1] at cWn
      rw [s2] at cWm
      rw [← hq, ← str_texts n.text m.text] at cE
      generalize ofBytes n.text = S1 at cWn cE
      generalize ofBytes m.text = S2 at cWm cE
      clear hq z1 z2 s1 s2 o1 o2 bn bm hWn hWm hR hRm
      go_enter Tryd.func5, Tryd.ntmps5
      go_upto_region 1 with fail
      simp only [← hW2]
      clear hW2
      have cL1 := cLn _ HN1.out
      go_wp2_with fail
      refine cL1.mono ?_
      rintro e w3 ⟨rfl, bw3⟩
      replace HB := Lib.hid (HB.out.trans (bw3.mono HB.out.size))
      replace t2 := TabW_below t2 bw3
      replace HX1 := Lib.hid (HX1.out.below bw3)
      replace HN1 := Lib.hid (ValIs.below bw3 _ _ HN1.out)
      clear f0 f1 f2 f3 f4 f5 f6
      obtain ⟨f0, f1, f2, f3, f4, f5, f6⟩ := id HX1.out
      replace HX2 := Lib.hid (HX2.out.below bw3)
      replace HM1 := Lib.hid (ValIs.below bw3 _ _ HM1.out)
      clear g0 g1 g2 g3 g4 g5 g6
      obtain ⟨g0, g1, g2, g3, g4, g5, g6⟩ := id HX2.out
      clear bw3
      clear cL1 cLn
      have cL1 := cLm _ HM1.out
      go_wp2_with fail
      refine cL1.mono ?_
      rintro e w4 ⟨rfl, bw4⟩
      replace HB := Lib.hid (HB.out.trans (bw4.mono HB.out.size))
      replace t2 := TabW_below t2 bw4
      replace HX1 := Lib.hid (HX1.out.below bw4)
      replace HN1 := Lib.hid (ValIs.below bw4 _ _ HN1.out)
      clear f0 f1 f2 f3 f4 f5 f6
      obtain ⟨f0, f1, f2, f3, f4, f5, f6⟩ := id HX1.out
      replace HX2 := Lib.hid (HX2.out.below bw4)
      replace HM1 := Lib.hid (ValIs.below bw4 _ _ HM1.out)
      clear g0 g1 g2 g3 g4 g5 g6
      obtain ⟨g0, g1, g2, g3, g4, g5, g6⟩ := id HX2.out
      clear bw4
      clear cL1 cLm
      have cL1 := cCn _ HN1.out
      go_wp2_with fail
      refine cL1.mono ?_
      rintro e w5 ⟨rfl, bw5⟩
      replace HB := Lib.hid (HB.out.trans (bw5.mono HB.out.size))
      replace t2 := TabW_below t2 bw5
      replace HX1 := Lib.hid (HX1.out.below bw5)
      replace HN1 := Lib.hid (ValIs.below bw5 _ _ HN1.out)
      clear f0 f1 f2 f3 f4 f5 f6
      obtain ⟨f0, f1, f2, f3, f4, f5, f6⟩ := id HX1.out
      replace HX2 := Lib.hid (HX2.out.below bw5)
      replace HM1 := Lib.hid (ValIs.below bw5 _ _ HM1.out)
      clear g0 g1 g2 g3 g4 g5 g6
      obtain ⟨g0, g1, g2, g3, g4, g5, g6⟩ := id HX2.out
      clear bw5
      clear cL1 cCn
      have cL1 := cCm _ HM1.out
      go_wp2_with fail
      refine cL1.mono ?_
      rintro e w6 ⟨rfl, bw6⟩
      replace HB := Lib.hid (HB.out.trans (bw6.mono HB.out.size))
      replace t2 := TabW_below t2 bw6
      replace HX1 := Lib.hid (HX1.out.below bw6)
      replace HN1 := Lib.hid (ValIs.below bw6 _ _ HN1.out)
      clear f0 f1 f2 f3 f4 f5 f6
      obtain ⟨f0, f1, f2, f3, f4, f5, f6⟩ := id HX1.out
      replace HX2 := Lib.hid (HX2.out.below bw6)
      replace HM1 := Lib.hid (ValIs.below bw6 _ _ HM1.out)
      clear g0 g1 g2 g3 g4 g5 g6
      obtain ⟨g0, g1, g2, g3, g4, g5, g6⟩ := id HX2.out
      clear bw6
      clear cL1 cCm
      have cL1 := cWn _ t2 HN1.out
      go_wp2_with fail
      refine cL1.mono ?_
      rintro e w7 ⟨rfl, bw7⟩
      replace HB := Lib.hid (HB.out.trans (bw7.mono HB.out.size))
      replace t2 := TabW_below t2 bw7
      replace HX1 := Lib.hid (HX1.out.below bw7)
      replace HN1 := Lib.hid (ValIs.below bw7 _ _ HN1.out)
      clear f0 f1 f2 f3 f4 f5 f6
      obtain ⟨f0, f1, f2, f3, f4, f5, f6⟩ := id HX1.out
      replace HX2 := Lib.hid (HX2.out.below bw7)
      replace HM1 := Lib.hid (ValIs.below bw7 _ _ HM1.out)
      clear g0 g1 g2 g3 g4 g5 g6
      obtain ⟨g0, g1, g2, g3, g4, g5, g6⟩ := id HX2.out
      clear bw7
      clear cL1 cWn
      have cL1 := cWm _ t2 HM1.out
      go_wp2_with fail
      refine cL1.mono ?_
      rintro e w8 ⟨rfl, bw8⟩
      replace HB := Lib.hid (HB.out.trans (bw8.mono HB.out.size))
      replace t2 := TabW_below t2 bw8
      replace HX1 := Lib.hid (HX1.out.below bw8)
      replace HN1 := Lib.hid (ValIs.below bw8 _ _ HN1.out)
      clear f0 f1 f2 f3 f4 f5 f6
      obtain ⟨f0, f1, f2, f3, f4, f5, f6⟩ := id HX1.out
      replace HX2 := Lib.hid (HX2.out.below bw8)
      replace HM1 := Lib.hid (ValIs.below bw8 _ _ HM1.out)
      clear g0 g1 g2 g3 g4 g5 g6
      obtain ⟨g0, g1, g2, g3, g4, g5, g6⟩ := id HX2.out
      clear bw8
      clear cL1 cWm
      have cL1 := cA _ t2
      go_wp2_with fail
      refine cL1.mono ?_
      rintro e w9 ⟨rfl, bw9⟩
      replace HB := Lib.hid (HB.out.trans (bw9.mono HB.out.size))
      replace t2 := TabW_below t2 bw9
      replace HX1 := Lib.hid (HX1.out.below bw9)
      replace HN1 := Lib.hid (ValIs.below bw9 _ _ HN1.out)
      clear f0 f1 f2 f3 f4 f5 f6
      obtain ⟨f0, f1, f2, f3, f4, f5, f6⟩ := id HX1.out
      replace HX2 := Lib.hid (HX2.out.below bw9)
      replace HM1 := Lib.hid (ValIs.below bw9 _ _ HM1.out)
      clear g0 g1 g2 g3 g4 g5 g6
      obtain ⟨g0, g1, g2, g3, g4, g5, g6⟩ := id HX2.out
      clear bw9
      clear cL1 cA
      have cL1 := cE _ HN1.out HM1.out
      go_wp2_with fail
      refine cL1.mono ?_
      rintro e w10 ⟨rfl, bw10⟩
      replace HB := Lib.hid (HB.out.trans (bw10.mono HB.out.size))
      replace t2 := TabW_below t2 bw10
      replace HX1 := Lib.hid (HX1.out.below bw10)
      replace HN1 := Lib.hid (ValIs.below bw10 _ _ HN1.out)
      clear f0 f1 f2 f3 f4 f5 f6
      obtain ⟨f0, f1, f2, f3, f4, f5, f6⟩ := id HX1.out
      replace HX2 := Lib.hid (HX2.out.below bw10)
      replace HM1 := Lib.hid (ValIs.below bw10 _ _ HM1.out)
      clear g0 g1 g2 g3 g4 g5 g6
      obtain ⟨g0, g1, g2, g3, g4, g5, g6⟩ := id HX2.out
      clear bw10
      clear cL1 cE
      go_wp2
      go_ret
      exact ⟨by simp [str_same], HB.out⟩
    · rw [z1] at cCn
      rw [z2] at cCm
      clear z1 z2 s1 s2 o1 bn bm hWn hWm hR hRm
      go_enter Tryd.func5, Tryd.ntmps5
      go_upto_region 1 with fail
      simp only [← hW2]
      clear hW2
      have cL1 := cLn _ HN1.out
      go_wp2_with fail
      refine cL1.mono ?_
      rintro e w3 ⟨rfl, bw3⟩
      replace HB := Lib.hid (HB.out.trans (bw3.mono HB.out.size))
      replace t2 := TabW_below t2 bw3
      replace HX1 := Lib.hid (HX1.out.below bw3)
      replace HN1 := Lib.hid (ValIs.below bw3 _ _ HN1.out)
      clear f0 f1 f2 f3 f4 f5 f6
      obtain ⟨f0, f1, f2, f3, f4, f5, f6⟩ := id HX1.out
      replace HX2 := Lib.hid (HX2.out.below bw3)
      replace HM1 := Lib.hid (ValIs.below bw3 _ _ HM1.out)
      clear g0 g1 g2 g3 g4 g5 g6
      obtain ⟨g0, g1, g2, g3, g4, g5, g6⟩ := id HX2.out
      clear bw3
      clear cL1 cLn
      have cL1 := cLm _ HM1.out
      go_wp2_with fail
      refine cL1.mono ?_
      rintro e w4 ⟨rfl, bw4⟩
      replace HB := Lib.hid (HB.out.trans (bw4.mono HB.out.size))
      replace t2 := TabW_below t2 bw4
      replace HX1 := Lib.hid (HX1.out.below bw4)
      replace HN1 := Lib.hid (ValIs.below bw4 _ _ HN1.out)
      clear f0 f1 f2 f3 f4 f5 f6
      obtain ⟨f0, f1, f2, f3, f4, f5, f6⟩ := id HX1.out
      replace HX2 := Lib.hid (HX2.out.below bw4)
      replace HM1 := Lib.hid (ValIs.below bw4 _ _ HM1.out)
      clear g0 g1 g2 g3 g4 g5 g6
      obtain ⟨g0, g1, g2, g3, g4, g5, g6⟩ := id HX2.out
      clear bw4
      clear cL1 cLm
      have cL1 := cCn _ HN1.out
      go_wp2_with fail
      refine cL1.mono ?_
      rintro e w5 ⟨rfl, bw5⟩
      replace HB := Lib.hid (HB.out.trans (bw5.mono HB.out.size))
      replace t2 := TabW_below t2 bw5
      replace HX1 := Lib.hid (HX1.out.below bw5)
      replace HN1 := Lib.hid (ValIs.below bw5 _ _ HN1.out)
      clear f0 f1 f2 f3 f4 f5 f6
      obtain ⟨f0, f1, f2, f3, f4, f5, f6⟩ := id HX1.out
      replace HX2 := Lib.hid (HX2.out.below bw5)
      replace HM1 := Lib.hid (ValIs.below bw5 _ _ HM1.out)
      clear g0 g1 g2 g3 g4 g5 g6
      obtain ⟨g0, g1, g2, g3, g4, g5, g6⟩ := id HX2.out
      clear bw5
      clear cL1 cCn
      have cL1 := cCm _ HM1.out
      go_wp2_with fail
      refine cL1.mono ?_
      rintro e w6 ⟨rfl, bw6⟩
      replace HB := Lib.hid (HB.out.trans (bw6.mono HB.out.size))
      replace t2 := TabW_below t2 bw6
      replace HX1 := Lib.hid (HX1.out.below bw6)
      replace HN1 := Lib.hid (ValIs.below bw6 _ _ HN1.out)
      clear f0 f1 f2 f3 f4 f5 f6
      obtain ⟨f0, f1, f2, f3, f4, f5, f6⟩ := id HX1.out
      replace HX2 := Lib.hid (HX2.out.below bw6)
      replace HM1 := Lib.hid (ValIs.below bw6 _ _ HM1.out)
      clear g0 g1 g2 g3 g4 g5 g6
      obtain ⟨g0, g1, g2, g3, g4, g5, g6⟩ := id HX2.out
      clear bw6
      clear cL1 cCm
      have cL1 := cA _ t2
      go_wp2_with fail
      refine cL1.mono ?_
      rintro e w7 ⟨rfl, bw7⟩
      replace HB := Lib.hid (HB.out.trans (bw7.mono HB.out.size))
      replace t2 := TabW_below t2 bw7
      replace HX1 := Lib.hid (HX1.out.below bw7)
      replace HN1 := Lib.hid (ValIs.below bw7 _ _ HN1.out)
      clear f0 f1 f2 f3 f4 f5 f6
      obtain ⟨f0, f1, f2, f3, f4, f5, f6⟩ := id HX1.out
      replace HX2 := Lib.hid (HX2.out.below bw7)
      replace HM1 := Lib.hid (ValIs.below bw7 _ _ HM1.out)
      clear g0 g1 g2 g3 g4 g5 g6
      obtain ⟨g0, g1, g2, g3, g4, g5, g6⟩ := id HX2.out
      clear bw7
      clear cL1 cA
      go_wp2
      go_ret
      exact ⟨rfl, HB.out⟩
  · rw [z1] at cCn
    clear z1 s1 bn bm hWn hWm hR hRm cCm
    go_enter Tryd.func5, Tryd.ntmps5
    go_upto_region 1 with fail
    simp only [← hW2]
    clear hW2
    have cL1 := cLn _ HN1.out
    go_wp2_with fail
    refine cL1.mono ?_
    rintro e w3 ⟨rfl, bw3⟩
    replace HB := Lib.hid (HB.out.trans (bw3.mono HB.out.size))
    replace t2 := TabW_below t2 bw3
    replace HX1 := Lib.hid (HX1.out.below bw3)
    replace HN1 := Lib.hid (ValIs.below bw3 _ _ HN1.out)
    clear f0 f1 f2 f3 f4 f5 f6
    obtain ⟨f0, f1, f2, f3, f4, f5, f6⟩ := id HX1.out
    replace HX2 := Lib.hid (HX2.out.below bw3)
    replace HM1 := Lib.hid (ValIs.below bw3 _ _ HM1.out)
    clear g0 g1 g2 g3 g4 g5 g6
    obtain ⟨g0, g1, g2, g3, g4, g5, g6⟩ := id HX2.out
    clear bw3
    clear cL1 cLn
    have cL1 := cLm _ HM1.out
    go_wp2_with fail
    refine cL1.mono ?_
    rintro e w4 ⟨rfl, bw4⟩
    replace HB := Lib.hid (HB.out.trans (bw4.mono HB.out.size))
    replace t2 := TabW_below t2 bw4
    replace HX1 := Lib.hid (HX1.out.below bw4)
    replace HN1 := Lib.hid (ValIs.below bw4 _ _ HN1.out)
    clear f0 f1 f2 f3 f4 f5 f6
    obtain ⟨f0, f1, f2, f3, f4, f5, f6⟩ := id HX1.out
    replace HX2 := Lib.hid (HX2.out.below bw4)
    replace HM1 := Lib.hid (ValIs.below bw4 _ _ HM1.out)
    clear g0 g1 g2 g3 g4 g5 g6
    obtain ⟨g0, g1, g2, g3, g4, g5, g6⟩ := id HX2.out
    clear bw4
    clear cL1 cLm
    have cL1 := cCn _ HN1.out
    go_wp2_with fail
    refine cL1.mono ?_
    rintro e w5 ⟨rfl, bw5⟩
    replace HB := Lib.hid (HB.out.trans (bw5.mono HB.out.size))
    replace t2 := TabW_below t2 bw5
    replace HX1 := Lib.hid (HX1.out.below bw5)
    replace HN1 := Lib.hid (ValIs.below bw5 _ _ HN1.out)
    clear f0 f1 f2 f3 f4 f5 f6
    obtain ⟨f0, f1, f2, f3, f4, f5, f6⟩ := id HX1.out
    replace HX2 := Lib.hid (HX2.out.below bw5)
    replace HM1 := Lib.hid (ValIs.below bw5 _ _ HM1.out)
    clear g0 g1 g2 g3 g4 g5 g6
    obtain ⟨g0, g1, g2, g3, g4, g5, g6⟩ := id HX2.out
    clear bw5
    clear cL1 cCn
    have cL1 := cA _ t2
    go_wp2_with fail
    refine cL1.mono ?_
    rintro e w6 ⟨rfl, bw6⟩
    replace HB := Lib.hid (HB.out.trans (bw6.mono HB.out.size))
    replace t2 := TabW_below t2 bw6
    replace HX1 := Lib.hid (HX1.out.below bw6)
    replace HN1 := Lib.hid (ValIs.below bw6 _ _ HN1.out)
    clear f0 f1 f2 f3 f4 f5 f6
    obtain ⟨f0, f1, f2, f3, f4, f5, f6⟩ := id HX1.out
    replace HX2 := Lib.hid (HX2.out.below bw6)
    replace HM1 := Lib.hid (ValIs.below bw6 _ _ HM1.out)
    clear g0 g1 g2 g3 g4 g5 g6
    obtain ⟨g0, g1, g2, g3, g4, g5, g6⟩ := id HX2.out
    clear bw6
    clear cL1 cA
    go_wp2
    go_ret
    exact ⟨rfl, HB.out⟩
end Go.Proofs.YtdooadalkbghgaaDoor
end
