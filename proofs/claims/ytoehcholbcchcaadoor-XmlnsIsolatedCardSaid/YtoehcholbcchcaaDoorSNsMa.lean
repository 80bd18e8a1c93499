/- Packed from the texts NsMa. -/
import Derived.Test.YtoehcholbcchcaaDoorSNsRr
import Derived.Test.YtoehcholbcchcaaDoorSkD
import Derived.Test.YtoehcholbcchcaaDoorSkF
import Derived.Test.YtoehcholbcchcaaDoorSkK
section
namespace Go.Proofs.YtoehcholbcchcaaDoor
open Go.RowKit
theorem attrsP_len (sc : Sc) : ∀ (al acc : List AttrD), (attrsP sc al acc).1.length ≤ acc.length + al.length
  | [], acc => by rw [attrsP]; exact Nat.le_refl _
  | a :: r, acc => by
    rw [attrsP]
    split
    · have := attrsP_len sc r acc
      rw [List.length_cons]
      omega
    · split
      · rw [List.length_cons]; show acc.length ≤ _; omega
      · split
        · rw [List.length_cons]; show acc.length ≤ _; omega
        · rename_i sp _ _
          have := attrsP_len sc r (acc ++ [⟨sp, (splitP a.nm).2.1, a.va, a.at'⟩])
          rw [List.length_append, List.length_singleton] at this
          rw [List.length_cons]
          omega
mutual
theorem res_wt (sc : Sc) : ∀ n : NodeD, (resP sc n).1.wt ≤ n.wt
  | .mk k s n al kids tx a => by
    have h1 : 1 ≤ (NodeD.mk k s n al kids tx a).wt := by rw [NodeD.wt]; omega
    rw [resP]
    split
    · exact h1
    · split
      · exact h1
      · split
        · exact h1
        · split
          · exact h1
          · split
            · exact h1
            · have h2 := attrsP_len (declsP sc al).1 al []
              have h3 := resKids_wt (declsP sc al).1 kids
              rw [NodeD.wt, NodeD.wt]
              simp at h2
              omega
theorem resKids_wt (sc : Sc) : ∀ l : List NodeD, wts (resKids sc l).1 ≤ wts l
  | [] => by rw [resKids]; exact Nat.le_refl _
  | k :: r => by
    have h1 := res_wt sc k
    have h2 := resKids_wt sc r
    rw [resKids]
    split
    · split
      · exact Nat.zero_le _
      · split
        · exact Nat.zero_le _
        · rw [wts, wts]; omega
    · split
      · exact Nat.zero_le _
      · rw [wts, wts]; omega
end
theorem prs_no {s : ByteArray} (h : 3000 < s.size ∨ (parseP s).2.2 ≠ 0) : prsP s = (zeroN, 0) := by
  unfold prsP
  by_cases h1 : 3000 < s.size
  · rw [if_pos h1]
  · rw [if_neg h1, if_pos (h.resolve_left h1)]
theorem prs_yes {s : ByteArray} (h : ¬ (3000 < s.size ∨ (parseP s).2.2 ≠ 0)) : prsP s = ((parseP s).1, 1) := by
  unfold prsP
  rw [if_neg (fun e => h (.inl e)), if_neg (fun e => h (.inr e))]
set_option maxRecDepth 100000 in
set_option maxHeartbeats 8000000 in
theorem walk_NsMatches (s : ByteArray) (w : World) (hT : NsT w) : Calls Tryd.prog 4 #[.string s] w fun e w' => e = .returned (.bool true) ∧ Below w.heap.size w w' := by
  have cA : ∀ wx, NsT wx → _ := fun wx ht => la_alive wx ht
  have c1 := la_parsed s w
  by_cases hb : 3000 < s.size ∨ (parseP s).2.2 ≠ 0
  · rw [prs_no hb] at c1
    clear hb
    go_enter Tryd.func4, Tryd.ntmps4
    go_wp2_with fail
    refine c1.mono ?_
    rintro e w2 ⟨v2, rfl, hn2, b2⟩
    obtain ⟨pa2, ca2, pk2, ck2, rfl⟩ : ∃ pa ca pk ck, v2 = .agg #[.int .i64 0, .string ⟨#[]⟩, .string ⟨#[]⟩, .slice pa 0 ca, .slice pk 0 ck, .string ⟨#[]⟩, .int .i64 0] := node_form hn2
    have b2' := ns_box b2 (.cells #[.int .i64 0, .string ⟨#[]⟩, .string ⟨#[]⟩, .slice pa2 0 ca2, .slice pk2 0 ck2, .string ⟨#[]⟩, .int .i64 0] 29)
    have cAl := cA _ (NsT_below hT b2')
    have HB2 := Lib.hid b2'
    clear b2 b2' hn2 c1
    go_wp2_with fail
    refine cAl.mono ?_
    rintro e w4 ⟨rfl, b4⟩
    have HB4 := Lib.hid (HB2.out.trans (b4.mono HB2.out.size))
    clear b4 cAl
    go_wp2
    exact bodyPost_ret (v := .bool true) (by simp [results, Tryd.results4, go_sem]) rfl ⟨rfl, HB4.out⟩
  · rw [prs_yes hb] at c1
    have hs : s.size ≤ 3000 := by omega
    have he : (parseP s).2.2 = 0 := Classical.byContradiction fun e => hb (.inr e)
    obtain ⟨o1, o2, o3, o4⟩ := doc_ok s _ hs rfl
    have hk := (parse_normal s he).1
    have hwt := (parse_small s (by omega)).2.2
    clear hb he hs
    generalize (parseP s).1 = n at *
    have hrw := res_wt [] n
    have e1 : ∀ v wx, NodeIs wx n v → NsT wx → _ := fun v wx hn ht => ns_Resolve n v wx hn ht o1 o2 o3 o4
    have e2 : ∀ v wx, NodeIs wx n v → _ := fun v wx hn => nref_Resolve n v wx hn o1 o2 hk o3 o4
    obtain ⟨R, hR⟩ : ∃ R, resP [] n = R := ⟨_, rfl⟩
    rw [hR] at e1 e2 hrw
    have cE := fun wx v u h h' => tref_Equal true R.1.wt R.1 R.1 v u wx (Nat.le_refl _) (by omega) h h'
    rw [eqB_refl] at cE
    have HCE := Lib.hid cE
    clear hR o1 o2 o3 o4 hk hwt hrw cE
    go_enter Tryd.func4, Tryd.ntmps4
    go_wp2_with fail
    refine c1.mono ?_
    rintro e w2 ⟨v2, rfl, hn2, b2⟩
    obtain ⟨pa2, ca2, pk2, ck2, rfl⟩ := node_form hn2
    simp only at hn2
    have X2 := BX.new hn2
    have b2' := ns_box b2 (.cells #[.int .i64 n.kind, .string n.sp, .string n.nm, .slice pa2 n.al.length ca2, .slice pk2 n.kids.length ck2, .string n.tx, .int .i64 n.at'] 29)
    obtain ⟨d0, d1, d2, d3, d4, d5, d6⟩ := X2.cells
    have cE1 := e1 _ _ X2.2 (NsT_below hT b2')
    have HX2 := Lib.hid X2
    have HB2 := Lib.hid b2'
    clear X2 b2' hn2 b2 c1 e1
    go_wp2_with fail
    refine cE1.mono ?_
    rintro e w3 ⟨v3, rfl, hf3, b3⟩
    have hn3 := FreshIs.is _ _ hf3
    obtain ⟨pa3, ca3, pk3, ck3, rfl⟩ := node_form hn3
    have X3 := BX.new hn3
    have b3' := ns_box b3 (.cells #[.int .i64 R.1.kind, .string R.1.sp, .string R.1.nm, .slice pa3 R.1.al.length ca3, .slice pk3 R.1.kids.length ck3, .string R.1.tx, .int .i64 R.1.at'] 29)
    have X2 := HX2.out.below b3'
    have B3 := HB2.out.trans (b3'.mono HB2.out.size)
    have HX3 := Lib.hid X3
    have HB3 := Lib.hid B3
    clear d0 d1 d2 d3 d4 d5 d6
    obtain ⟨d0, d1, d2, d3, d4, d5, d6⟩ := X2.cells
    have cE2 := e2 _ _ X2.2
    clear X2 X3 B3 b3' hn3 hf3 b3 HB2 HX2 cE1 e2
    go_wp2_with fail
    refine cE2.mono ?_
    rintro e w4 ⟨v4, rfl, hn4, b4⟩
    rw [holes_nil] at hn4
    obtain ⟨pa4, ca4, pk4, ck4, rfl⟩ := node_form hn4
    have X4 := BX.new hn4
    have b4' := ns_box b4 (.cells #[.int .i64 R.1.kind, .string R.1.sp, .string R.1.nm, .slice pa4 R.1.al.length ca4, .slice pk4 R.1.kids.length ck4, .string R.1.tx, .int .i64 R.1.at'] 29)
    have X3 := HX3.out.below b4'
    have B4 := HB3.out.trans (b4'.mono HB3.out.size)
    have cAl := cA _ (NsT_below hT B4)
    have HX3' := Lib.hid X3
    have HX4 := Lib.hid X4
    have HB4 := Lib.hid B4
    clear X3 X4 B4 b4' hn4 b4 HB3 HX3 cE2 d0 d1 d2 d3 d4 d5 d6 cA
    go_wp2_with fail
    refine cAl.mono ?_
    rintro e w5 ⟨rfl, b5⟩
    have X3 := HX3'.out.below b5
    have X4 := HX4.out.below b5
    have B5 := HB4.out.trans (b5.mono HB4.out.size)
    have cQ := HCE.out _ _ _ X3.2 X4.2
    obtain ⟨d0, d1, d2, d3, d4, d5, d6⟩ := X3.cells
    obtain ⟨q0, q1, q2, q3, q4, q5, q6⟩ := X4.cells
    have HB5 := Lib.hid B5
    clear X3 X4 B5 b5 HB4 HX3' HX4 cAl HCE
    go_wp2_with fail
    refine cQ.mono ?_
    rintro e w6 ⟨rfl, b6⟩
    have HB6 := Lib.hid (HB5.out.trans (b6.mono HB5.out.size))
    clear b6 HB5 cQ d0 d1 d2 d3 d4 d5 d6 q0 q1 q2 q3 q4 q5 q6
    go_wp2
    exact bodyPost_ret (v := .bool true) (by simp [results, Tryd.results4, go_sem]) rfl ⟨rfl, HB6.out⟩
end Go.Proofs.YtoehcholbcchcaaDoor
end
