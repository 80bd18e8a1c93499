/- Packed from the texts NsDu. -/
import Derived.Test.YtoehcholbcchcaaDoorUTextR
import Derived.Test.YtoehcholbcchcaaDoorUkK
import Derived.Deep.QuietTactic
import Derived.BigQuiet
import Derived.BigRegion
section
namespace Go.Proofs.YtoehcholbcchcaaDoor
open Go.RowKit
def duX (k : Nat) : ByteArray := ⟨#[(117 + k : Nat).toUInt8]⟩
def duD (x y : ByteArray) : ByteArray := ((⟨#[32, 120, 109, 108, 110, 115, 58, 112, 61, 39]⟩ ++ x) ++ ⟨#[39, 32, 120, 109, 108, 110, 115, 58, 113, 61, 39]⟩ ++ y) ++ ⟨#[39]⟩
def duA (d : ByteArray) : ByteArray := (⟨#[60, 97]⟩ ++ d) ++ ⟨#[32, 112, 58, 99, 61, 39, 49, 39, 32, 113, 58, 99, 61, 39, 50, 39, 32, 99, 61, 39, 51, 39, 47, 62]⟩
def duR (d : ByteArray) : ByteArray := (⟨#[60, 97, 32, 112, 58, 99, 61, 39, 49, 39, 32, 113, 58, 99, 61, 39, 50, 39, 32, 99, 61, 39, 51, 39]⟩ ++ d) ++ ⟨#[47, 62]⟩
def duOk (i j : Nat) (D : ByteArray) (want : Int) : Bool :=
  decide (D.size ≤ 3000) && decide ((parseP D).2.2 = 0) &&
  (if i = j then decide ((resP [] (parseP D).1).2.2 = 10) && decide ((resP [] (parseP D).1).2.1 = want)
  else decide ((resP [] (parseP D).1).2.2 = 0) && decide ((resP [] (parseP D).1).1.al.length = 3))
theorem du_0 : ((List.range 3).all fun i => (List.range 3).all fun j => duOk i j (duA (duD (duX i) (duX j))) 35) = true := by kernel_rfl
theorem du_1 : ((List.range 3).all fun i => (List.range 3).all fun j => duOk i j (duR (duD (duX i) (duX j))) 11) = true := by kernel_rfl
theorem duX_nums (i : Nat) (hi : i < 3) : strOfNums [117 + (i : Int)] = duX i := by
  obtain rfl | rfl | rfl : i = 0 ∨ i = 1 ∨ i = 2 := by omega
  all_goals rfl
theorem dconv (W : World) (g i : Nat) (hi : i < 3) (h : W.cell? ⟨g, 0, none⟩ = some (.int .u8 (117 + (i : Int)))) : (convert 40 9 (.slice (some ⟨g, 0, none⟩) 1 1)).run Tryd.prog W = .ok (.string (duX i)) W := by
  rw [← duX_nums i hi]
  exact run_convert_bytes_arg W 40 5 Tryd.underlying40 Tryd.underlying5 g 0 1 1 [117 + (i : Int)] rfl (fun j hj => by
    match j, hj with
    | 0, _ => simpa using h) 9 Tryd.underlying9
theorem du_at (i j : Nat) (hi : i < 3) (hj : j < 3) : duOk i j (duA (duD (duX i) (duX j))) 35 = true ∧ duOk i j (duR (duD (duX i) (duX j))) 11 = true :=
  ⟨List.all_eq_true.1 (List.all_eq_true.1 du_0 i (List.mem_range.2 hi)) j (List.mem_range.2 hj), List.all_eq_true.1 (List.all_eq_true.1 du_1 i (List.mem_range.2 hi)) j (List.mem_range.2 hj)⟩
theorem du_facts {i j : Nat} {D : ByteArray} {want : Int} (h : duOk i j D want = true) : D.size ≤ 3000 ∧ (parseP D).2.2 = 0 ∧ (i = j → (resP [] (parseP D).1).2.2 = 10 ∧ (resP [] (parseP D).1).2.1 = want) ∧ (i ≠ j → (resP [] (parseP D).1).2.2 = 0 ∧ (resP [] (parseP D).1).1.al.length = 3) := by
  unfold duOk at h
  rw [Bool.and_eq_true, Bool.and_eq_true, decide_eq_true_eq, decide_eq_true_eq] at h
  obtain ⟨⟨h1, h2⟩, h3⟩ := h
  refine ⟨h1, h2, fun e => ?_, fun e => ?_⟩
  · rw [if_pos e, Bool.and_eq_true, decide_eq_true_eq, decide_eq_true_eq] at h3
    exact h3
  · rw [if_neg e, Bool.and_eq_true, decide_eq_true_eq, decide_eq_true_eq] at h3
    exact h3
theorem duX_eq (i j : Nat) (hi : i < 3) (hj : j < 3) (h : duX i = duX j) : i = j := by
  obtain rfl | rfl | rfl : i = 0 ∨ i = 1 ∨ i = 2 := by omega
  all_goals
    obtain rfl | rfl | rfl : j = 0 ∨ j = 1 ∨ j = 2 := by omega
    all_goals first | rfl | exact absurd h (by decide)
theorem du_doc (D : ByteArray) (i j : Nat) (want : Int) (h : duOk i j D want = true) : ∃ (n : NodeD) (R : NodeD × Int × Int), (∀ wx, Calls Tryd.prog 12 #[.string D] wx fun e w' => PrsR (n, 1) wx e w') ∧ (∀ v wx, NodeIs wx n v → NsT wx → Calls Tryd.prog 13 #[v] wx fun e w' => ResR wx.heap.size R wx e w') ∧ (i = j → R.2.2 = 10 ∧ R.2.1 = want) ∧ (i ≠ j → R.2.2 = 0 ∧ R.1.al.length = 3) := by
  obtain ⟨g1, g2, g3, g4⟩ := du_facts h
  have hpr : prsP D = ((parseP D).1, 1) := by unfold prsP; rw [if_neg (by omega), if_neg (by rw [g2]; decide)]
  obtain ⟨o1, o2, o3, o4⟩ := doc_ok _ _ g1 rfl
  refine ⟨(parseP D).1, resP [] (parseP D).1, fun wx => ?_, fun v wx hn ht => ns_Resolve _ v wx hn ht o1 o2 o3 o4, g3, g4⟩
  rw [← hpr]
  exact la_parsed _ wx
set_option maxRecDepth 100000 in
set_option maxHeartbeats 8000000 in
theorem walk_NsDuplicates (a b : Int) (rev : Bool) (w : World) (ha0 : 0 ≤ a) (ha1 : a ≤ 255) (hb0 : 0 ≤ b) (hb1 : b ≤ 255) (hT : NsT w) : Calls Tryd.prog 6 #[.int .u8 a, .int .u8 b, .bool rev] w fun e w' => e = .returned (.bool true) ∧ Below w.heap.size w w' := by
  obtain ⟨i, hi⟩ : ∃ d : Nat, a % 3 = (d : Int) := ⟨(a % 3).toNat, by omega⟩
  obtain ⟨j, hj⟩ : ∃ k : Nat, b % 3 = (k : Int) := ⟨(b % 3).toNat, by omega⟩
  have hi3 : i < 3 := by omega
  have hj3 : j < 3 := by omega
  have hiz : (0 : Int) ≤ (i : Int) := by omega
  have hjz : (0 : Int) ≤ (j : Int) := by omega
  have hw1 : IntKind.u8.wrap (117 + (i : Int)) = 117 + (i : Int) := by simp [IntKind.wrap, IntKind.bits, IntKind.signed]; omega
  have hw2 : IntKind.u8.wrap (117 + (j : Int)) = 117 + (j : Int) := by simp [IntKind.wrap, IntKind.bits, IntKind.signed]; omega
  have q1 := dconv (w.alloc (.cells #[.int .u8 (117 + (i : Int))] 5)).drew w.heap.size i hi3 (by simp)
  have q2 := dconv (w.alloc (.cells #[.int .u8 (117 + (j : Int))] 5)).drew w.heap.size j hj3 (by simp)
  have q3 := dconv ((w.alloc (.cells #[.int .u8 (117 + (i : Int))] 5)).alloc (.cells #[.int .u8 (117 + (j : Int))] 5)).drew w.heap.size i hi3 (by simp)
  have q4 := dconv ((w.alloc (.cells #[.int .u8 (117 + (i : Int))] 5)).alloc (.cells #[.int .u8 (117 + (j : Int))] 5)).drew (w.heap.size + 1) j hj3 (by simp)
  have q5 := dconv ((w.alloc (.cells #[.int .u8 (117 + (j : Int))] 5)).alloc (.cells #[.int .u8 (117 + (i : Int))] 5)).drew w.heap.size j hj3 (by simp)
  have q6 := dconv ((w.alloc (.cells #[.int .u8 (117 + (j : Int))] 5)).alloc (.cells #[.int .u8 (117 + (i : Int))] 5)).drew (w.heap.size + 1) i hi3 (by simp)
  have bI : Below w.heap.size w ((w.alloc (.cells #[.int .u8 (117 + (i : Int))] 5)).alloc (.cells #[.int .u8 (117 + (j : Int))] 5)).drew := (((Below.refl _ _).alloc (Nat.le_refl _) _).alloc (by simp) _).drew
  have bJ : Below w.heap.size w ((w.alloc (.cells #[.int .u8 (117 + (j : Int))] 5)).alloc (.cells #[.int .u8 (117 + (i : Int))] 5)).drew := (((Below.refl _ _).alloc (Nat.le_refl _) _).alloc (by simp) _).drew
  have HW1 := Lib.hid bI
  have HW2 := Lib.hid bJ
  clear bI bJ
  go_enter Tryd.func6, Tryd.ntmps6
  go_wp2
  go_region
  all_goals
    first
    | (obtain ⟨W, hW⟩ : ∃ W, W = ((w.alloc (.cells #[.int .u8 (117 + (i : Int))] 5)).alloc (.cells #[.int .u8 (117 + (j : Int))] 5)).drew := ⟨_, rfl⟩
       rw [← hW]
       have HW : Hid (Below w.heap.size w W) := Lib.hid (by rw [hW]; exact HW1.out)
       clear hW)
    | (obtain ⟨W, hW⟩ : ∃ W, W = ((w.alloc (.cells #[.int .u8 (117 + (j : Int))] 5)).alloc (.cells #[.int .u8 (117 + (i : Int))] 5)).drew := ⟨_, rfl⟩
       rw [← hW]
       have HW : Hid (Below w.heap.size w W) := Lib.hid (by rw [hW]; exact HW2.out)
       clear hW)
    clear q1 q2 q3 q4 q5 q6 HW1 HW2 hi hj hiz hjz hw1 hw2
    cases rev with
    | false =>
      obtain ⟨n, R, c1, e1, g3, g4⟩ := du_doc (duA (duD (duX i) (duX j))) i j 35 (du_at i j hi3 hj3).1
      have cA : ∀ wx, NsT wx → _ := fun wx ht => la_alive wx ht
      unfold duA duD at c1
      have hxs : (duX i).size = 1 := rfl
      have hys : (duX j).size = 1 := rfl
      by_cases hij : i = j
      · obtain ⟨r1, r2⟩ := g3 hij
        subst hij
        have t1 : ((duX i).toList == (duX i).toList) = true := by simp
        clear g3 g4 hi3 hj3
        go_wp2_with fail
        refine (c1 _).mono ?_
        rintro e w2 ⟨v2, rfl, hn2, b2⟩
        obtain ⟨pa2, ca2, pk2, ck2, rfl⟩ := node_form hn2
        simp only at hn2
        have X2 := BX.new hn2
        have b2' := ns_box b2 (.cells #[.int .i64 n.kind, .string n.sp, .string n.nm, .slice pa2 n.al.length ca2, .slice pk2 n.kids.length ck2, .string n.tx, .int .i64 n.at'] 29)
        have B2 := HW.out.trans (b2'.mono HW.out.size)
        obtain ⟨d0, d1, d2, d3, d4, d5, d6⟩ := X2.cells
        have cE := e1 _ _ X2.2 (NsT_below hT B2)
        have HB2 := Lib.hid B2
        clear X2 B2 b2' hn2 b2
        go_wp2_with fail
        refine cE.mono ?_
        rintro e w3 ⟨v3, rfl, hf3, b3⟩
        have hn3 := FreshIs.is _ _ hf3
        obtain ⟨pa3, ca3, pk3, ck3, rfl⟩ := node_form hn3
        have X3 := BX.new hn3
        have b3' := ns_box b3 (.cells #[.int .i64 R.1.kind, .string R.1.sp, .string R.1.nm, .slice pa3 R.1.al.length ca3, .slice pk3 R.1.kids.length ck3, .string R.1.tx, .int .i64 R.1.at'] 29)
        have B3 := HB2.out.trans (b3'.mono HB2.out.size)
        have cAl := cA _ (NsT_below hT B3)
        have HX3 := Lib.hid X3
        have HB3 := Lib.hid B3
        clear X3 B3 b3' hn3 hf3 b3 HB2 cE d0 d1 d2 d3 d4 d5 d6
        go_wp2_with fail
        refine cAl.mono ?_
        rintro e w4 ⟨rfl, b4⟩
        have y3 := (HX3.out.below b4).cells.2.2.2.1
        have HB4 := Lib.hid (HB3.out.trans (b4.mono HB3.out.size))
        clear b4 HX3 HB3 cAl
        go_wp2
        exact bodyPost_ret (v := .bool true) (by simp [results, Tryd.results6, go_sem]) rfl ⟨rfl, HB4.out⟩
      · obtain ⟨r1, r2⟩ := g4 hij
        have hxy : ¬ duX i = duX j := fun e => hij (duX_eq i j hi3 hj3 e)
        have t1 := str_ne2 hxy
        have t2 := str_ne3 hxy
        have r3 : ((R.1.al.length : Int) == 3) = true := by rw [r2]; rfl
        clear g3 g4 hij hxy hi3 hj3 r2
        go_wp2_with fail
        refine (c1 _).mono ?_
        rintro e w2 ⟨v2, rfl, hn2, b2⟩
        obtain ⟨pa2, ca2, pk2, ck2, rfl⟩ := node_form hn2
        simp only at hn2
        have X2 := BX.new hn2
        have b2' := ns_box b2 (.cells #[.int .i64 n.kind, .string n.sp, .string n.nm, .slice pa2 n.al.length ca2, .slice pk2 n.kids.length ck2, .string n.tx, .int .i64 n.at'] 29)
        have B2 := HW.out.trans (b2'.mono HW.out.size)
        obtain ⟨d0, d1, d2, d3, d4, d5, d6⟩ := X2.cells
        have cE := e1 _ _ X2.2 (NsT_below hT B2)
        have HB2 := Lib.hid B2
        clear X2 B2 b2' hn2 b2
        go_wp2_with fail
        refine cE.mono ?_
        rintro e w3 ⟨v3, rfl, hf3, b3⟩
        have hn3 := FreshIs.is _ _ hf3
        obtain ⟨pa3, ca3, pk3, ck3, rfl⟩ := node_form hn3
        have X3 := BX.new hn3
        have b3' := ns_box b3 (.cells #[.int .i64 R.1.kind, .string R.1.sp, .string R.1.nm, .slice pa3 R.1.al.length ca3, .slice pk3 R.1.kids.length ck3, .string R.1.tx, .int .i64 R.1.at'] 29)
        have B3 := HB2.out.trans (b3'.mono HB2.out.size)
        have cAl := cA _ (NsT_below hT B3)
        have HX3 := Lib.hid X3
        have HB3 := Lib.hid B3
        clear X3 B3 b3' hn3 hf3 b3 HB2 cE d0 d1 d2 d3 d4 d5 d6
        go_wp2_with fail
        refine cAl.mono ?_
        rintro e w4 ⟨rfl, b4⟩
        have y3 := (HX3.out.below b4).cells.2.2.2.1
        have HB4 := Lib.hid (HB3.out.trans (b4.mono HB3.out.size))
        clear b4 HX3 HB3 cAl
        go_wp2
        exact bodyPost_ret (v := .bool true) (by simp [results, Tryd.results6, go_sem]) rfl ⟨rfl, HB4.out⟩
    | true =>
      obtain ⟨n, R, c1, e1, g3, g4⟩ := du_doc (duR (duD (duX i) (duX j))) i j 11 (du_at i j hi3 hj3).2
      have cA : ∀ wx, NsT wx → _ := fun wx ht => la_alive wx ht
      unfold duR duD at c1
      have hxs : (duX i).size = 1 := rfl
      have hys : (duX j).size = 1 := rfl
      by_cases hij : i = j
      · obtain ⟨r1, r2⟩ := g3 hij
        subst hij
        have t1 : ((duX i).toList == (duX i).toList) = true := by simp
        clear g3 g4 hi3 hj3
        go_wp2_with fail
        refine (c1 _).mono ?_
        rintro e w2 ⟨v2, rfl, hn2, b2⟩
        obtain ⟨pa2, ca2, pk2, ck2, rfl⟩ := node_form hn2
        simp only at hn2
        have X2 := BX.new hn2
        have b2' := ns_box b2 (.cells #[.int .i64 n.kind, .string n.sp, .string n.nm, .slice pa2 n.al.length ca2, .slice pk2 n.kids.length ck2, .string n.tx, .int .i64 n.at'] 29)
        have B2 := HW.out.trans (b2'.mono HW.out.size)
        obtain ⟨d0, d1, d2, d3, d4, d5, d6⟩ := X2.cells
        have cE := e1 _ _ X2.2 (NsT_below hT B2)
        have HB2 := Lib.hid B2
        clear X2 B2 b2' hn2 b2
        go_wp2_with fail
        refine cE.mono ?_
        rintro e w3 ⟨v3, rfl, hf3, b3⟩
        have hn3 := FreshIs.is _ _ hf3
        obtain ⟨pa3, ca3, pk3, ck3, rfl⟩ := node_form hn3
        have X3 := BX.new hn3
        have b3' := ns_box b3 (.cells #[.int .i64 R.1.kind, .string R.1.sp, .string R.1.nm, .slice pa3 R.1.al.length ca3, .slice pk3 R.1.kids.length ck3, .string R.1.tx, .int .i64 R.1.at'] 29)
        have B3 := HB2.out.trans (b3'.mono HB2.out.size)
        have cAl := cA _ (NsT_below hT B3)
        have HX3 := Lib.hid X3
        have HB3 := Lib.hid B3
        clear X3 B3 b3' hn3 hf3 b3 HB2 cE d0 d1 d2 d3 d4 d5 d6
        go_wp2_with fail
        refine cAl.mono ?_
        rintro e w4 ⟨rfl, b4⟩
        have y3 := (HX3.out.below b4).cells.2.2.2.1
        have HB4 := Lib.hid (HB3.out.trans (b4.mono HB3.out.size))
        clear b4 HX3 HB3 cAl
        go_wp2
        exact bodyPost_ret (v := .bool true) (by simp [results, Tryd.results6, go_sem]) rfl ⟨rfl, HB4.out⟩
      · obtain ⟨r1, r2⟩ := g4 hij
        have hxy : ¬ duX i = duX j := fun e => hij (duX_eq i j hi3 hj3 e)
        have t1 := str_ne2 hxy
        have t2 := str_ne3 hxy
        have r3 : ((R.1.al.length : Int) == 3) = true := by rw [r2]; rfl
        clear g3 g4 hij hxy hi3 hj3 r2
        go_wp2_with fail
        refine (c1 _).mono ?_
        rintro e w2 ⟨v2, rfl, hn2, b2⟩
        obtain ⟨pa2, ca2, pk2, ck2, rfl⟩ := node_form hn2
        simp only at hn2
        have X2 := BX.new hn2
        have b2' := ns_box b2 (.cells #[.int .i64 n.kind, .string n.sp, .string n.nm, .slice pa2 n.al.length ca2, .slice pk2 n.kids.length ck2, .string n.tx, .int .i64 n.at'] 29)
        have B2 := HW.out.trans (b2'.mono HW.out.size)
        obtain ⟨d0, d1, d2, d3, d4, d5, d6⟩ := X2.cells
        have cE := e1 _ _ X2.2 (NsT_below hT B2)
        have HB2 := Lib.hid B2
        clear X2 B2 b2' hn2 b2
        go_wp2_with fail
        refine cE.mono ?_
        rintro e w3 ⟨v3, rfl, hf3, b3⟩
        have hn3 := FreshIs.is _ _ hf3
        obtain ⟨pa3, ca3, pk3, ck3, rfl⟩ := node_form hn3
        have X3 := BX.new hn3
        have b3' := ns_box b3 (.cells #[.int .i64 R.1.kind, .string R.1.sp, .string R.1.nm, .slice pa3 R.1.al.length ca3, .slice pk3 R.1.kids.length ck3, .string R.1.tx, .int .i64 R.1.at'] 29)
        have B3 := HB2.out.trans (b3'.mono HB2.out.size)
        have cAl := cA _ (NsT_below hT B3)
        have HX3 := Lib.hid X3
        have HB3 := Lib.hid B3
        clear X3 B3 b3' hn3 hf3 b3 HB2 cE d0 d1 d2 d3 d4 d5 d6
        go_wp2_with fail
        refine cAl.mono ?_
        rintro e w4 ⟨rfl, b4⟩
        have y3 := (HX3.out.below b4).cells.2.2.2.1
        have HB4 := Lib.hid (HB3.out.trans (b4.mono HB3.out.size))
        clear b4 HX3 HB3 cAl
        go_wp2
        exact bodyPost_ret (v := .bool true) (by simp [results, Tryd.results6, go_sem]) rfl ⟨rfl, HB4.out⟩
end Go.Proofs.YtoehcholbcchcaaDoor
end
