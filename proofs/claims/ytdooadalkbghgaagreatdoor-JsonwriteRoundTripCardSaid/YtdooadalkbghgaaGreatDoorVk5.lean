/- Packed from the texts JwV JwY JwX. -/
import Derived.Test.YtdooadalkbghgaaGreatDoorVJzC
import Derived.Test.YtdooadalkbghgaaGreatDoorVk2
import Derived.Test.YtdooadalkbghgaaGreatDoorVkN
import Derived.Test.YtdooadalkbghgaaGreatDoorVkP
import Derived.Test.YtdooadalkbghgaaGreatDoorVkU
import Derived.Test.YtdooadalkbghgaaGreatDoorVkY
section
namespace Go.Proofs.YtdooadalkbghgaaGreatDoor
open Go.RowKit
theorem chk_depth {n : ValD} (h : chkZ n = 0) : n.depth ≤ 100 := by
  unfold chkZ at h
  split at h
  · rename_i hv
    unfold validB at hv
    rw [Bool.and_eq_true] at hv
    exact of_decide_eq_true hv.2
  · cases h
end Go.Proofs.YtdooadalkbghgaaGreatDoor
end
section
namespace Go.Proofs.YtdooadalkbghgaaGreatDoor
open Go.RowKit
theorem proper_same {v w : ValD} (h : v.kind = w.kind ∧ v.b = w.b ∧ v.n = w.n ∧ v.s = w.s ∧ v.items.length = w.items.length ∧ v.mems.length = w.mems.length) : properB v = properB w := by
  unfold properB
  rw [h.1, h.2.1, h.2.2.1, h.2.2.2.1, h.2.2.2.2.1, h.2.2.2.2.2]
mutual
theorem veq_more : ∀ v w : ValD, v.eqB false w = true → v.okB = w.okB ∧ v.depth = w.depth ∧ v.bulk = w.bulk ∧ (v.R64 → w.R64)
  | .mk k b n s items mems a, w, h => by
    rw [veq_eq, Bool.and_eq_true, Bool.and_eq_true] at h
    have hq := head_out h.1
    have hp := proper_same hq
    obtain ⟨h1, h2, h3, h4, h5, h6⟩ := hq
    obtain ⟨i1, i2, i3, i4⟩ := vseq_more items w.items h5 h.2.1
    obtain ⟨m1, m2, m3, m4⟩ := mseq_more mems w.mems h6 h.2.2
    refine ⟨?_, ?_, ?_, fun hr => ?_⟩
    · rw [vok_eq, vok_eq w, ← i1, ← m1 [], ← hp, ← h4]
      rfl
    · rw [vdepth_eq, vdepth_eq w, ← i2 0, ← m2 0, ← h1]
      rfl
    · rw [vbulk_eq, vbulk_eq w, ← i3, ← m3, ← h4]
      rfl
    · rw [vr64_eq] at hr ⊢
      exact ⟨by rw [← h3]; exact hr.1, i4 hr.2.1, m4 hr.2.2⟩
theorem vseq_more : ∀ l r : List ValD, l.length = r.length → vsEq false l r = true → okVs l = okVs r ∧ (∀ m, vdepths l m = vdepths r m) ∧ bulkVs l = bulkVs r ∧ (R64s l → R64s r)
  | [], [], _, _ => ⟨rfl, fun _ => rfl, rfl, id⟩
  | k :: l, x :: y, hl, h => by
    rw [vsEq, Bool.and_eq_true] at h
    obtain ⟨a1, a2, a3, a4⟩ := veq_more k x h.1
    obtain ⟨b1, b2, b3, b4⟩ := vseq_more l y (by simpa using hl) h.2
    refine ⟨?_, fun m => ?_, ?_, fun hr => ?_⟩
    · rw [okVs, okVs, a1, b1]
    · rw [vdepths, vdepths, a2, b2]
    · rw [bulkVs, bulkVs, a3, b3]
    · rw [R64s] at hr ⊢
      exact ⟨a4 hr.1, b4 hr.2⟩
theorem mseq_more : ∀ l r : List MemD, l.length = r.length → msEq false l r = true → (∀ keys, okMs keys l = okMs keys r) ∧ (∀ m, mdepths l m = mdepths r m) ∧ bulkMs l = bulkMs r ∧ (R64m l → R64m r)
  | [], [], _, _ => ⟨fun _ => rfl, fun _ => rfl, rfl, id⟩
  | k :: l, x :: y, hl, h => by
    rw [msEq, Bool.and_eq_true] at h
    obtain ⟨a0, a1, a2, a3, a4⟩ := meq_more k x h.1
    obtain ⟨b1, b2, b3, b4⟩ := mseq_more l y (by simpa using hl) h.2
    refine ⟨fun keys => ?_, fun m => ?_, ?_, fun hr => ?_⟩
    · rw [okMs, okMs, a1, b1, a0]
    · rw [mdepths, mdepths, a2, b2]
    · rw [bulkMs, bulkMs, a3, b3]
    · rw [R64m] at hr ⊢
      exact ⟨a4 hr.1, b4 hr.2⟩
theorem meq_more : ∀ v w : MemD, v.eqB false w = true → v.key = w.key ∧ v.okB = w.okB ∧ v.depth = w.depth ∧ v.bulk = w.bulk ∧ (v.R64 → w.R64)
  | .mk k v a, w, h => by
    rw [meq_eq, Bool.and_eq_true] at h
    have h1 := (of_decide_eq_true h.1).1
    obtain ⟨a1, a2, a3, a4⟩ := veq_more v w.v h.2
    refine ⟨h1, ?_, ?_, ?_, fun hr => ?_⟩
    · rw [mok_eq, mok_eq w]; exact a1
    · rw [mdepth_eq, mdepth_eq w]; exact a2
    · rw [mbulk_eq, mbulk_eq w, ← h1]
      show k.size + v.bulk = _
      rw [a3]
      rfl
    · rw [mr64_eq] at hr ⊢
      exact a4 hr
end
theorem text_bom (v : ValD) : ¬ [239, 187, 191].isPrefixOf v.text = true := by
  rw [vtext_eq]
  split
  · decide
  split
  · unfold boolT
    split <;> decide
  split
  · obtain ⟨c, r, h1, h2⟩ := itoa_head v.n
    rw [h1]
    intro h
    have hc : c = 239 := by simp [List.isPrefixOf] at h; exact h.1.symm
    rw [hc] at h2
    rcases h2 with h2 | h2
    · exact absurd h2 (by decide)
    · exact absurd h2.2 (by decide)
  split
  · unfold quoteJ
    simp [List.isPrefixOf]
  split
  · simp [List.isPrefixOf]
  · simp [List.isPrefixOf]
theorem text_parse (v : ValD) (hok : v.okB = true) (hr : v.R64) (hd : v.depth ≤ 100) : ∃ v', parR v.text = (v', (v.text.length : Int), 0) ∧ v.eqB false v' = true := by
  obtain ⟨v', h1, h2⟩ := text_head v (3 * v.text.length + 1) 0 1 [] hok hr (by omega) (.inl rfl) (by rw [List.append_nil]; exact Nat.le_refl _)
  have hsp := text_sp v hok []
  rw [List.append_nil] at h1 hsp
  refine ⟨v', ?_, h2⟩
  have hv : vA v.text 0 1 = .ok v' (0 + v.text.length) := by
    rw [vA_eq, spP_spN, List.drop_zero, hsp, ← hA_of v.text 0 1 (3 * v.text.length + 1) (by rw [List.drop_zero]; exact Nat.le_refl _), List.drop_zero, h1]
    rfl
  unfold parR tA
  rw [if_neg (text_bom v), hv]
  simp only [spP_end v.text (0 + v.text.length) (by omega)]
  rw [if_neg (by omega)]
end Go.Proofs.YtdooadalkbghgaaGreatDoor
end
section
namespace Go.Proofs.YtdooadalkbghgaaGreatDoor
open Go.RowKit
set_option maxRecDepth 100000 in
set_option maxHeartbeats 64000000 in
theorem walk_JwRoundTrip (n : ValD) (p1 : Option Addr) (c1 : Nat) (q1 : Option Addr) (d1 : Nat) (w : World) (hT : TabW w) (hV : TabV w) (hn : ValIs w n (.agg #[.int .i64 n.kind, .bool n.b, .int .i64 n.n, .string n.s, .slice p1 n.items.length c1, .slice q1 n.mems.length d1, .int .i64 n.at'])) (hWn : n.WF) (hR : n.R64) : Calls Tryz.prog 3 #[(.agg #[.int .i64 n.kind, .bool n.b, .int .i64 n.n, .string n.s, .slice p1 n.items.length c1, .slice q1 n.mems.length d1, .int .i64 n.at'])] w fun e w' => e = .returned (.bool true) ∧ Below w.heap.size w w' := by
  have cA : ∀ wx, TabW wx → _ := fun wx ht => jw_alive wx ht
  have cLn := fun wx h => law_TooLargeJ n (.agg #[.int .i64 n.kind, .bool n.b, .int .i64 n.n, .string n.s, .slice p1 n.items.length c1, .slice q1 n.mems.length d1, .int .i64 n.at']) wx hWn h
  obtain ⟨W2, hW2⟩ : ∃ W2, W2 = w.alloc (.cells #[.int .i64 n.kind, .bool n.b, .int .i64 n.n, .string n.s, .slice p1 n.items.length c1, .slice q1 n.mems.length d1, .int .i64 n.at'] 25) := ⟨_, rfl⟩
  have b2 : Below w.heap.size w W2 := by rw [hW2]; exact (Below.refl _ _).alloc (Nat.le_refl _) _
  have X1 : JBox W2 w.heap.size n p1 c1 q1 d1 := by rw [hW2]; exact JBox.of (Bj.new w #[.int .i64 n.kind, .bool n.b, .int .i64 n.n, .string n.s, .slice p1 n.items.length c1, .slice q1 n.mems.length d1, .int .i64 n.at'] 25)
  have N2 := ValIs.below b2 _ _ hn
  have t2 := TabW_below hT b2
  have HB := Lib.hid b2
  obtain ⟨f0, f1, f2, f3, f4, f5, f6⟩ := id X1
  have HX1 := Lib.hid X1
  have HN1 := Lib.hid N2
  have tv := TabV_below hV b2
  clear hV X1 b2 hn hT
  by_cases h1 : 5000 < n.wgt 0
  · rw [decide_eq_true h1, show oneIfJ true = 1 from rfl] at cLn
    clear h1
    go_enter Tryz.func3, Tryz.ntmps3
    go_upto_region 1 with fail
    simp only [← hW2]
    clear hW2
    have cL1 := cLn _ HN1.out
    go_wp2_with fail
    refine cL1.mono ?_
    rintro e w3 ⟨rfl, bw3⟩
    replace HB := Lib.hid (HB.out.trans (bw3.mono HB.out.size))
    replace t2 := TabW_below t2 bw3
    replace tv := TabV_below tv bw3
    replace HX1 := Lib.hid (HX1.out.below bw3)
    replace HN1 := Lib.hid (ValIs.below bw3 _ _ HN1.out)
    clear f0 f1 f2 f3 f4 f5 f6
    obtain ⟨f0, f1, f2, f3, f4, f5, f6⟩ := id HX1.out
    clear bw3
    clear cL1 cLn
    go_wp2_with fail
    refine (cA _ t2).mono ?_
    rintro e w4 ⟨rfl, bw4⟩
    replace HB := Lib.hid (HB.out.trans (bw4.mono HB.out.size))
    replace t2 := TabW_below t2 bw4
    replace tv := TabV_below tv bw4
    replace HX1 := Lib.hid (HX1.out.below bw4)
    replace HN1 := Lib.hid (ValIs.below bw4 _ _ HN1.out)
    clear f0 f1 f2 f3 f4 f5 f6
    obtain ⟨f0, f1, f2, f3, f4, f5, f6⟩ := id HX1.out
    clear bw4
    go_wp2
    go_ret
    exact ⟨rfl, HB.out⟩
  rw [decide_eq_false h1, show oneIfJ false = 0 from rfl] at cLn
  have bs := not_large_bulk h1
  have bn : n.bulk ≤ 1000000 := Nat.le_trans bs (by decide)
  clear h1
  have cCn := fun wx h => jref_CheckW n (.agg #[.int .i64 n.kind, .bool n.b, .int .i64 n.n, .string n.s, .slice p1 n.items.length c1, .slice q1 n.mems.length d1, .int .i64 n.at']) wx bn h
  rcases wrP n with ⟨z1, s1, o1⟩ | ⟨z1, s1⟩
  · obtain ⟨m, hP, hq⟩ := text_parse n o1 hR (chk_depth z1)
    obtain ⟨e1, e2, e3, e4⟩ := veq_more n m hq
    have hx := veq_text n m hq
    have hRm := e4 hR
    have hlen := text_bulk n hR
    have z2 : chkZ m = 0 := by
      unfold chkZ validB at z1 ⊢
      rw [← e1, ← e2]
      exact z1
    have s2 : wrZ m = ofBytes n.text := by
      rw [hx]
      rcases wrP m with ⟨a1, a2, -⟩ | ⟨a1, -⟩
      · exact a2
      · rw [z2] at a1
        cases a1
    have cWn := fun wx ht h => jw_Write n (.agg #[.int .i64 n.kind, .bool n.b, .int .i64 n.n, .string n.s, .slice p1 n.items.length c1, .slice q1 n.mems.length d1, .int .i64 n.at']) wx bn hR ht h
    have cP := fun wx ht => jp_Parse (ofBytes n.text) wx (by rw [ofBytes_size]; omega) ht
    have cWm := fun wx vx ht h => jw_Write m vx wx (by omega) hRm ht h
    have cE := fun wx vx h h' => jref_Equal false n.cnt n m (.agg #[.int .i64 n.kind, .bool n.b, .int .i64 n.n, .string n.s, .slice p1 n.items.length c1, .slice q1 n.mems.length d1, .int .i64 n.at']) vx wx (Nat.le_refl _) (Nat.le_trans (cnt_bulk n) (Nat.le_trans bn (by decide))) h h'
    rw [z1] at cCn cWn
    rw [z2] at cWm
    rw [s1] at cWn
    rw [s2] at cWm
    rw [hq] at cE
    rw [ofBytes_list, hP] at cP
    simp only at cP
    rw [← ofBytes_size n.text] at cP
    generalize ofBytes n.text = S1 at cWn cWm cP
    clear hq hP hx z1 z2 s1 s2 o1 e1 e2 e3 e4 hlen bs bn hWn hR hRm
    go_enter Tryz.func3, Tryz.ntmps3
    go_upto_region 1 with fail
    simp only [← hW2]
    clear hW2
    have cL1 := cLn _ HN1.out
    go_wp2_with fail
    refine cL1.mono ?_
    rintro e w3 ⟨rfl, bw3⟩
    replace HB := Lib.hid (HB.out.trans (bw3.mono HB.out.size))
    replace t2 := TabW_below t2 bw3
    replace tv := TabV_below tv bw3
    replace HX1 := Lib.hid (HX1.out.below bw3)
    replace HN1 := Lib.hid (ValIs.below bw3 _ _ HN1.out)
    clear f0 f1 f2 f3 f4 f5 f6
    obtain ⟨f0, f1, f2, f3, f4, f5, f6⟩ := id HX1.out
    clear bw3
    clear cL1 cLn
    have cL1 := cCn _ HN1.out
    go_wp2_with fail
    refine cL1.mono ?_
    rintro e w4 ⟨rfl, bw4⟩
    replace HB := Lib.hid (HB.out.trans (bw4.mono HB.out.size))
    replace t2 := TabW_below t2 bw4
    replace tv := TabV_below tv bw4
    replace HX1 := Lib.hid (HX1.out.below bw4)
    replace HN1 := Lib.hid (ValIs.below bw4 _ _ HN1.out)
    clear f0 f1 f2 f3 f4 f5 f6
    obtain ⟨f0, f1, f2, f3, f4, f5, f6⟩ := id HX1.out
    clear bw4
    clear cL1 cCn
    have cL1 := cWn _ t2 HN1.out
    go_wp2_with fail
    refine cL1.mono ?_
    rintro e w5 ⟨rfl, bw5⟩
    replace HB := Lib.hid (HB.out.trans (bw5.mono HB.out.size))
    replace t2 := TabW_below t2 bw5
    replace tv := TabV_below tv bw5
    replace HX1 := Lib.hid (HX1.out.below bw5)
    replace HN1 := Lib.hid (ValIs.below bw5 _ _ HN1.out)
    clear f0 f1 f2 f3 f4 f5 f6
    obtain ⟨f0, f1, f2, f3, f4, f5, f6⟩ := id HX1.out
    clear bw5
    clear cL1 cWn
    have cL1 := cP _ tv
    go_wp2_with fail
    refine cL1.mono ?_
    rintro e w6 ⟨⟨x, rfl, hx⟩, b6⟩
    obtain ⟨p2, c2, q2, d2, rfl⟩ := jval_form hx
    obtain ⟨W7, hW7⟩ : ∃ W7, W7 = w6.alloc (.cells #[.int .i64 m.kind, .bool m.b, .int .i64 m.n, .string m.s, .slice p2 m.items.length c2, .slice q2 m.mems.length d2, .int .i64 m.at'] 25) := ⟨_, rfl⟩
    have b67 : Below w6.heap.size w6 W7 := by rw [hW7]; exact (Below.refl _ _).alloc (Nat.le_refl _) _
    have b7 := b6.trans (b67.mono b6.size)
    have X2 : JBox W7 w6.heap.size m p2 c2 q2 d2 := by rw [hW7]; exact JBox.of (Bj.new w6 #[.int .i64 m.kind, .bool m.b, .int .i64 m.n, .string m.s, .slice p2 m.items.length c2, .slice q2 m.mems.length d2, .int .i64 m.at'] 25)
    have M2 := ValIs.below b67 _ _ hx
    replace HB := Lib.hid (HB.out.trans (b7.mono HB.out.size))
    replace t2 := TabW_below t2 b7
    replace tv := TabV_below tv b7
    replace HX1 := Lib.hid (HX1.out.below b7)
    replace HN1 := Lib.hid (ValIs.below b7 _ _ HN1.out)
    have HX2 := Lib.hid X2
    have HM1 := Lib.hid M2
    clear f0 f1 f2 f3 f4 f5 f6 cL1 cP hx b6 b67 b7 X2 M2
    obtain ⟨f0, f1, f2, f3, f4, f5, f6⟩ := id HX1.out
    obtain ⟨g0, g1, g2, g3, g4, g5, g6⟩ := id HX2.out
    go_upto_region 5 with fail
    simp only [← hW7]
    clear hW7
    generalize w6.heap.size = y6 at *
    have cL1 := cWm _ _ t2 HM1.out
    go_wp2_with fail
    refine cL1.mono ?_
    rintro e w8 ⟨rfl, bw8⟩
    replace HB := Lib.hid (HB.out.trans (bw8.mono HB.out.size))
    replace t2 := TabW_below t2 bw8
    replace tv := TabV_below tv bw8
    replace HX1 := Lib.hid (HX1.out.below bw8)
    replace HN1 := Lib.hid (ValIs.below bw8 _ _ HN1.out)
    clear f0 f1 f2 f3 f4 f5 f6
    obtain ⟨f0, f1, f2, f3, f4, f5, f6⟩ := id HX1.out
    replace HX2 := Lib.hid (HX2.out.below bw8)
    replace HM1 := Lib.hid (ValIs.below bw8 _ _ HM1.out)
    clear g0 g1 g2 g3 g4 g5 g6
    obtain ⟨g0, g1, g2, g3, g4, g5, g6⟩ := id HX2.out
    clear bw8
    clear cL1 cWm
    have cL1 := cA _ t2
    go_wp2_with fail
    refine cL1.mono ?_
    rintro e w9 ⟨rfl, bw9⟩
    replace HB := Lib.hid (HB.out.trans (bw9.mono HB.out.size))
    replace t2 := TabW_below t2 bw9
    replace tv := TabV_below tv bw9
    replace HX1 := Lib.hid (HX1.out.below bw9)
    replace HN1 := Lib.hid (ValIs.below bw9 _ _ HN1.out)
    clear f0 f1 f2 f3 f4 f5 f6
    obtain ⟨f0, f1, f2, f3, f4, f5, f6⟩ := id HX1.out
    replace HX2 := Lib.hid (HX2.out.below bw9)
    replace HM1 := Lib.hid (ValIs.below bw9 _ _ HM1.out)
    clear g0 g1 g2 g3 g4 g5 g6
    obtain ⟨g0, g1, g2, g3, g4, g5, g6⟩ := id HX2.out
    clear bw9
    clear cL1 cA
    have cL1 := cE _ _ HN1.out HM1.out
    go_wp2_with fail
    refine cL1.mono ?_
    rintro e w10 ⟨rfl, bw10⟩
    replace HB := Lib.hid (HB.out.trans (bw10.mono HB.out.size))
    replace t2 := TabW_below t2 bw10
    replace tv := TabV_below tv bw10
    replace HX1 := Lib.hid (HX1.out.below bw10)
    replace HN1 := Lib.hid (ValIs.below bw10 _ _ HN1.out)
    clear f0 f1 f2 f3 f4 f5 f6
    obtain ⟨f0, f1, f2, f3, f4, f5, f6⟩ := id HX1.out
    replace HX2 := Lib.hid (HX2.out.below bw10)
    replace HM1 := Lib.hid (ValIs.below bw10 _ _ HM1.out)
    clear g0 g1 g2 g3 g4 g5 g6
    obtain ⟨g0, g1, g2, g3, g4, g5, g6⟩ := id HX2.out
    clear bw10
    clear cL1 cE
    go_wp2
    go_ret
    exact ⟨by simp, HB.out⟩
  · rw [z1] at cCn
    clear z1 s1 bn bs hWn hR
    go_enter Tryz.func3, Tryz.ntmps3
    go_upto_region 1 with fail
    simp only [← hW2]
    clear hW2
    have cL1 := cLn _ HN1.out
    go_wp2_with fail
    refine cL1.mono ?_
    rintro e w3 ⟨rfl, bw3⟩
    replace HB := Lib.hid (HB.out.trans (bw3.mono HB.out.size))
    replace t2 := TabW_below t2 bw3
    replace tv := TabV_below tv bw3
    replace HX1 := Lib.hid (HX1.out.below bw3)
    replace HN1 := Lib.hid (ValIs.below bw3 _ _ HN1.out)
    clear f0 f1 f2 f3 f4 f5 f6
    obtain ⟨f0, f1, f2, f3, f4, f5, f6⟩ := id HX1.out
    clear bw3
    clear cL1 cLn
    have cL1 := cCn _ HN1.out
    go_wp2_with fail
    refine cL1.mono ?_
    rintro e w4 ⟨rfl, bw4⟩
    replace HB := Lib.hid (HB.out.trans (bw4.mono HB.out.size))
    replace t2 := TabW_below t2 bw4
    replace tv := TabV_below tv bw4
    replace HX1 := Lib.hid (HX1.out.below bw4)
    replace HN1 := Lib.hid (ValIs.below bw4 _ _ HN1.out)
    clear f0 f1 f2 f3 f4 f5 f6
    obtain ⟨f0, f1, f2, f3, f4, f5, f6⟩ := id HX1.out
    clear bw4
    clear cL1 cCn
    have cL1 := cA _ t2
    go_wp2_with fail
    refine cL1.mono ?_
    rintro e w5 ⟨rfl, bw5⟩
    replace HB := Lib.hid (HB.out.trans (bw5.mono HB.out.size))
    replace t2 := TabW_below t2 bw5
    replace tv := TabV_below tv bw5
    replace HX1 := Lib.hid (HX1.out.below bw5)
    replace HN1 := Lib.hid (ValIs.below bw5 _ _ HN1.out)
    clear f0 f1 f2 f3 f4 f5 f6
    obtain ⟨f0, f1, f2, f3, f4, f5, f6⟩ := id HX1.out
    clear bw5
    clear cL1 cA
    go_wp2
    go_ret
    exact ⟨rfl, HB.out⟩
end Go.Proofs.YtdooadalkbghgaaGreatDoor
end
