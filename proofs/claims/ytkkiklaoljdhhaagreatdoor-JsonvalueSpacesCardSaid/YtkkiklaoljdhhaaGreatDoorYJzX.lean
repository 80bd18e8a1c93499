/- Packed from the texts JzX. -/
import Derived.Test.YtkkiklaoljdhhaaGreatDoorYJzM
import Derived.Test.YtkkiklaoljdhhaaGreatDoorYShelf
import Derived.Test.YtkkiklaoljdhhaaGreatDoorYkM
import Derived.Test.YtkkiklaoljdhhaaGreatDoorYkR
import Derived.Test.YtkkiklaoljdhhaaGreatDoorYkU
section
namespace Go.Proofs.YtkkiklaoljdhhaaGreatDoor
open Go.RowKit
theorem bom_pre (l : List UInt8) (h : [(239 : UInt8)].isPrefixOf l = false) : ¬ [239, 187, 191].isPrefixOf l = true := by
  intro h2
  cases l with
  | nil => simp [List.isPrefixOf] at h2
  | cons c r =>
    simp only [List.isPrefixOf, Bool.and_true] at h
    simp [List.isPrefixOf] at h2
    rw [← h2.1] at h
    simp at h
theorem app3 (a b c : ByteArray) : (a ++ b ++ c).data.toList = a.data.toList ++ b.data.toList ++ c.data.toList := by rw [ByteArray.data_append, ByteArray.data_append, Array.toList_append, Array.toList_append]
def ItA (w : World) (A : Addr) (a : ValD) (p5 : Option Addr) (c5 : Nat) (q5 : Option Addr) (d5 : Nat) : Prop := w.cell? A = some (.int .i64 a.kind) ∧ w.cell? ⟨A.block, A.off + 1, none⟩ = some (.bool a.b) ∧ w.cell? ⟨A.block, A.off + 2, none⟩ = some (.int .i64 a.n) ∧ w.cell? ⟨A.block, A.off + 3, none⟩ = some (.string a.s) ∧ w.cell? ⟨A.block, A.off + 4, none⟩ = some (.slice p5 a.items.length c5) ∧ w.cell? ⟨A.block, A.off + 5, none⟩ = some (.slice q5 a.mems.length d5) ∧ w.cell? ⟨A.block, A.off + 6, none⟩ = some (.int .i64 a.at')
theorem ItA.below {w w' : World} {A : Addr} {a : ValD} {p5 : Option Addr} {c5 : Nat} {q5 : Option Addr} {d5 : Nat} (h : ItA w A a p5 c5 q5 d5) (hb : Below w.heap.size w w') : ItA w' A a p5 c5 q5 d5 := by
  obtain ⟨h0, h1, h2, h3, h4, h5, h6⟩ := h
  exact ⟨(hb.cell (vblock_lt h0)).trans h0, (hb.cell (vblock_lt h1)).trans h1, (hb.cell (vblock_lt h2)).trans h2, (hb.cell (vblock_lt h3)).trans h3, (hb.cell (vblock_lt h4)).trans h4, (hb.cell (vblock_lt h5)).trans h5, (hb.cell (vblock_lt h6)).trans h6⟩
theorem arr2_form {w : World} {a o : ValD} {x : Value} (h : ValIs w (.mk 4 false 0 ⟨#[]⟩ [a, o] [] 0) x) : ∃ (A : Addr) (c : Nat) (q : Option Addr) (d : Nat) (p5 : Option Addr) (c5 : Nat) (q5 : Option Addr) (d5 : Nat) (p6 : Option Addr) (c6 : Nat) (q6 : Option Addr) (d6 : Nat),
    x = .agg #[.int .i64 4, .bool false, .int .i64 0, .string ⟨#[]⟩, .slice (some A) 2 c, .slice q 0 d, .int .i64 0] ∧ ItA w A a p5 c5 q5 d5 ∧ ItA w ⟨A.block, A.off + 7, none⟩ o p6 c6 q6 d6 ∧ ValIs w a (.agg #[.int .i64 a.kind, .bool a.b, .int .i64 a.n, .string a.s, .slice p5 a.items.length c5, .slice q5 a.mems.length d5, .int .i64 a.at']) ∧ ValIs w o (.agg #[.int .i64 o.kind, .bool o.b, .int .i64 o.n, .string o.s, .slice p6 o.items.length c6, .slice q6 o.mems.length d6, .int .i64 o.at']) := by
  rw [ValIs] at h
  obtain ⟨p, c, q, d, rfl, hI, -⟩ := h
  rw [ItemsAt, ItemsAt] at hI
  obtain ⟨⟨A, v0, v1, v2, v3, v4, v5, v6, rfl, ⟨h0, h1, h2, h3, h4, h5, h6⟩, hn⟩, ⟨A', u0, u1, u2, u3, u4, u5, u6, hA, ⟨g0, g1, g2, g3, g4, g5, g6⟩, hm⟩, -⟩ := hI
  injection hA with hA
  subst hA
  obtain ⟨p5, c5, q5, d5, e, -, -⟩ := (val_is w a _).1 hn
  obtain ⟨p6, c6, q6, d6, e', -, -⟩ := (val_is w o _).1 hm
  simp only [Value.agg.injEq, Array.mk.injEq, List.cons.injEq, and_true] at e e'
  obtain ⟨rfl, rfl, rfl, rfl, rfl, rfl, rfl⟩ := e
  obtain ⟨rfl, rfl, rfl, rfl, rfl, rfl, rfl⟩ := e'
  simp [Addr.add] at h0 h1 h2 h3 h4 h5 h6 g0 g1 g2 g3 g4 g5 g6
  exact ⟨A, c, q, d, p5, c5, q5, d5, p6, c6, q6, d6, rfl, ⟨h0, h1, h2, h3, h4, h5, h6⟩, ⟨g0, g1, g2, g3, g4, g5, g6⟩, hn, hm⟩
set_option maxRecDepth 100000 in
theorem sp_at (r : Int) (h0 : 0 ≤ r) (h1 : r ≤ 3) : ∃ sp : ByteArray, (∀ c ∈ sp.data.toList, spB c = true) ∧ sp.size ≤ 2 ∧ ∀ wx, (Instr.index 36 (.agg #[.string ⟨#[32]⟩, .string ⟨#[10]⟩, .string ⟨#[9, 13]⟩, .string ⟨#[]⟩]) (.int .u8 r)).run Tryz.prog wx = .ok (.string sp) wx := by
  rcases (show r = 0 ∨ r = 1 ∨ r = 2 ∨ r = 3 by omega) with rfl | rfl | rfl | rfl
  · exact ⟨⟨#[32]⟩, by decide, by decide, fun _ => by kernel_rfl⟩
  · exact ⟨⟨#[10]⟩, by decide, by decide, fun _ => by kernel_rfl⟩
  · exact ⟨⟨#[9, 13]⟩, by decide, by decide, fun _ => by kernel_rfl⟩
  · exact ⟨⟨#[]⟩, by decide, by decide, fun _ => by kernel_rfl⟩
set_option maxRecDepth 100000 in
set_option maxHeartbeats 64000000 in
theorem walk_JvSpaces (s : ByteArray) (x : Int) (w : World) (hT : TabV w) (hx0 : 0 ≤ x) (hx1 : x ≤ 255) :
    Calls Tryz.prog 4 #[.string s, .int .u8 x] w fun e w' => e = .returned (.bool true) ∧ Below w.heap.size w w' := by
  have cA : ∀ wx, TabV wx → _ := fun wx ht => jv_alive wx ht
  have hbW : Below w.heap.size w w := Below.refl _ _
  by_cases hl : 3000 < s.size
  · have hlz : (3000 : Int) < (s.size : Int) := by omega
    go_enter Tryz.func4, Tryz.ntmps4
    go_wp2_with fail
    refine (cA _ hT).mono ?_
    rintro e w9 ⟨rfl, b9⟩
    go_wp2
    go_ret
    exact ⟨rfl, hbW.trans (b9.mono hbW.size)⟩
  have hlz : ¬ (3000 : Int) < (s.size : Int) := by omega
  have c1 : ∀ wx, _ := fun wx => jref_ParseJ s wx (by omega)
  have hcn := parR_cnt s.data.toList
  rw [show s.data.toList.length = s.size by simp] at hcn
  obtain ⟨⟨v, n0, e0⟩, hP⟩ : ∃ P, parR s.data.toList = P := ⟨_, rfl⟩
  rw [hP] at c1 hcn
  simp only at c1 hcn
  by_cases he0 : e0 = 0
  case neg =>
    have he1 : (e0 != 0) = true := by simpa using he0
    clear he0 hP hl
    go_enter Tryz.func4, Tryz.ntmps4
    go_wp2_with fail
    refine (c1 _).mono ?_
    rintro en w1 ⟨⟨v1, rfl, hv1⟩, b1⟩
    obtain ⟨p1, c1', q1, d1, rfl⟩ := jval_form hv1
    have bb := b1.alloc b1.size (.cells #[.int .i64 v.kind, .bool v.b, .int .i64 v.n, .string v.s, .slice p1 v.items.length c1', .slice q1 v.mems.length d1, .int .i64 v.at'] 26)
    have tt := TabV_below hT bb
    clear c1
    go_wp2_with fail
    refine (cA _ tt).mono ?_
    rintro e w9 ⟨rfl, b9⟩
    go_wp2
    go_ret
    exact ⟨rfl, bb.trans (b9.mono bb.size)⟩
  subst he0
  have cH := fun wx => Tryz.strings_HasPrefix s ⟨#[239]⟩ wx
  rw [show ((⟨#[239]⟩ : ByteArray).data.toList) = [239] from rfl] at cH
  unfold Lib.hasPrefix at cH
  generalize hpx : [(239 : UInt8)].isPrefixOf s.data.toList = px at *
  rcases px with _ | _
  case true =>
    clear hpx hP hl
    go_enter Tryz.func4, Tryz.ntmps4
    go_wp2_with fail
    refine (c1 _).mono ?_
    rintro en w1 ⟨⟨v1, rfl, hv1⟩, b1⟩
    obtain ⟨p1, c1', q1, d1, rfl⟩ := jval_form hv1
    have bb := b1.alloc b1.size (.cells #[.int .i64 v.kind, .bool v.b, .int .i64 v.n, .string v.s, .slice p1 v.items.length c1', .slice q1 v.mems.length d1, .int .i64 v.at'] 26)
    have tt := TabV_below hT bb
    clear c1
    go_wp2_with fail
    refine (cH _).mono ?_
    rintro e w3 ⟨rfl, rfl⟩
    go_wp2_with fail
    refine (cA _ tt).mono ?_
    rintro e w9 ⟨rfl, b9⟩
    go_wp2
    go_ret
    exact ⟨rfl, bb.trans (b9.mono bb.size)⟩
  have hbm := bom_pre _ hpx
  have cD := fun wx v1 h => jref_Depth v.cnt v v1 wx (Nat.le_refl _) (by omega) h
  have hdc := vdepth_cnt v
  by_cases hd : 98 < v.depth
  · have hdz : (100 : Int) < (v.depth : Int) + 2 := by omega
    clear hpx hP hbm hd
    have hdb : (v.depth : Int) ≤ 1000000 := by omega
    clear hdc
    go_enter Tryz.func4, Tryz.ntmps4
    go_wp2_with fail
    refine (c1 _).mono ?_
    rintro en w1 ⟨⟨v1, rfl, hv1⟩, b1⟩
    obtain ⟨p1, c1', q1, d1, rfl⟩ := jval_form hv1
    obtain ⟨W1, hW1⟩ : ∃ W1, W1 = w1.alloc (.cells #[.int .i64 v.kind, .bool v.b, .int .i64 v.n, .string v.s, .slice p1 v.items.length c1', .slice q1 v.mems.length d1, .int .i64 v.at'] 26) := ⟨_, rfl⟩
    have nW1 : Below w1.heap.size w1 W1 := by rw [hW1]; exact (Below.refl _ _).alloc (Nat.le_refl _) _
    have JW1 : JBox W1 w1.heap.size v p1 c1' q1 d1 := by rw [hW1]; exact JBox.of (Bj.new w1 #[.int .i64 v.kind, .bool v.b, .int .i64 v.n, .string v.s, .slice p1 v.items.length c1', .slice q1 v.mems.length d1, .int .i64 v.at'] 26)
    go_upto_region 4 with fail
    simp only [← hW1]
    clear hW1
    have bb := b1.trans (nW1.mono b1.size)
    have hv2 := ValIs.below nW1 _ _ hv1
    obtain ⟨f0, f1, f2, f3, f4, f5, f6⟩ := JW1
    have cD2 := cD _ _ hv2
    clear c1 cD
    go_wp2_with fail
    refine (cH _).mono ?_
    rintro e w3 ⟨rfl, rfl⟩
    go_wp2_with fail
    refine cD2.mono ?_
    rintro e w4 ⟨rfl, b4⟩
    have bb4 := bb.trans (b4.mono bb.size)
    have tt := TabV_below hT bb4
    clear cD2 cH hv1 hv2 nW1 f0 f1 f2 f3 f4 f5 f6
    go_wp2_with fail
    refine (cA _ tt).mono ?_
    rintro e w9 ⟨rfl, b9⟩
    go_wp2
    go_ret
    exact ⟨rfl, bb4.trans (b9.mono bb4.size)⟩
  have hdz : ¬ (100 : Int) < (v.depth : Int) + 2 := by omega
  obtain ⟨r, hr⟩ : ∃ r, x % 4 = r := ⟨_, rfl⟩
  obtain ⟨sp, hsp, hspz, hix⟩ := sp_at r (by omega) (by omega)
  have hnz := tA_ne s.data.toList
  obtain ⟨u, hu, huE⟩ := spaces_ok s.data.toList v n0 hbm hP hnz sp.data.toList hsp (by omega)
  obtain ⟨a, y, o1, o2, hw, haE, hyE⟩ := within_ok s.data.toList v n0 hbm hP hnz sp.data.toList hsp (by omega)
  have hsz : s.data.toList.length = s.size := by simp
  have hspl : sp.data.toList.length = sp.size := by simp
  obtain ⟨S1, hS1⟩ : ∃ S1, S1 = sp ++ s ++ sp := ⟨_, rfl⟩
  have hD1 : S1.data.toList = sp.data.toList ++ s.data.toList ++ sp.data.toList := by rw [hS1]; exact app3 _ _ _
  have hZ1 : S1.size ≤ 4000 := by rw [hS1, ByteArray.size_append, ByteArray.size_append]; omega
  obtain ⟨S2, hS2⟩ : ∃ S2, S2 = ⟨#[91]⟩ ++ sp ++ s ++ sp ++ ⟨#[44]⟩ ++ sp ++ ⟨#[123]⟩ ++ sp ++ ⟨#[34, 107, 34]⟩ ++ sp ++ ⟨#[58]⟩ ++ s ++ ⟨#[125]⟩ ++ sp ++ ⟨#[93]⟩ := ⟨_, rfl⟩
  have hD2 : S2.data.toList = withinT sp.data.toList s.data.toList := by
    rw [hS2]
    simp only [ByteArray.data_append, Array.toList_append, withinT]
    simp
  have hZ2 : S2.size ≤ 8000 := by
    have h1 : S2.data.toList.length = S2.size := by simp
    rw [← h1, hD2]
    simp only [withinT, List.length_cons, List.length_append, List.length_nil]
    omega
  have c2 : ∀ wx, TabV wx → _ := fun wx ht => jp_Parse S1 wx (by omega) ht
  rw [hD1, hu] at c2
  have c3 : ∀ wx, TabV wx → _ := fun wx ht => jp_Parse S2 wx (by omega) ht
  rw [hD2, hw] at c3
  simp only at c2 c3
  obtain ⟨o, ho⟩ : ∃ o, o = ValD.mk 5 false 0 ⟨#[]⟩ [] [.mk ⟨#[107]⟩ y o1] o2 := ⟨_, rfl⟩
  rw [← ho] at c3
  have cG := fun wx x h => jp_Got o x ⟨#[107]⟩ wx (by rw [ho]; show 1 ≤ 140737488351232; omega) h
  have hgv : getV o ⟨#[107]⟩ = some y := by rw [ho]; rfl
  rw [show gotD o ⟨#[107]⟩ = y by unfold gotD; rw [hgv]; rfl, hgv] at cG
  have cE1 := fun wx x1 x2 h1 h2 => jref_Equal false v.cnt v u x1 x2 wx (Nat.le_refl _) (by omega) h1 h2
  have cE2 := fun wx x1 x2 h1 h2 => jref_Equal false v.cnt v a x1 x2 wx (Nat.le_refl _) (by omega) h1 h2
  have cE3 := fun wx x1 x2 h1 h2 => jref_Equal false v.cnt v y x1 x2 wx (Nat.le_refl _) (by omega) h1 h2
  rw [huE] at cE1
  rw [haE] at cE2
  rw [hyE] at cE3
  have HS1 := Lib.hid hS1
  have HS2 := Lib.hid hS2
  have hdb : (v.depth : Int) ≤ 1000000 := by omega
  clear hD1 hD2 hS1 hS2 hu hw hP hnz hbm huE haE hyE hsp hpx hgv ho hsz hspl hdc hd hl
  generalize v.depth = vd at *
  go_enter Tryz.func4, Tryz.ntmps4
  go_wp2_with fail
  refine (c1 _).mono ?_
  rintro en w1 ⟨⟨v1, rfl, hv1⟩, b1⟩
  obtain ⟨p1, c1', q1, d1, rfl⟩ := jval_form hv1
  obtain ⟨W1, hW1⟩ : ∃ W1, W1 = w1.alloc (.cells #[.int .i64 v.kind, .bool v.b, .int .i64 v.n, .string v.s, .slice p1 v.items.length c1', .slice q1 v.mems.length d1, .int .i64 v.at'] 26) := ⟨_, rfl⟩
  have nW1 : Below w1.heap.size w1 W1 := by rw [hW1]; exact (Below.refl _ _).alloc (Nat.le_refl _) _
  have JW1 : JBox W1 w1.heap.size v p1 c1' q1 d1 := by rw [hW1]; exact JBox.of (Bj.new w1 #[.int .i64 v.kind, .bool v.b, .int .i64 v.n, .string v.s, .slice p1 v.items.length c1', .slice q1 v.mems.length d1, .int .i64 v.at'] 26)
  go_upto_region 4 with fail
  simp only [← hW1]
  clear hW1
  have bb := b1.trans (nW1.mono b1.size)
  have hv2 := ValIs.below nW1 _ _ hv1
  have HJ1 := Lib.hid JW1
  obtain ⟨f0, f1, f2, f3, f4, f5, f6⟩ := JW1
  have cD2 := cD _ _ hv2
  clear c1 cD hv1 nW1 b1
  go_wp2_with fail
  refine (cH _).mono ?_
  rintro e w3 ⟨rfl, rfl⟩
  go_wp2_with fail
  refine cD2.mono ?_
  rintro e w4 ⟨rfl, b4⟩
  have bb4 := bb.trans (b4.mono bb.size)
  have tt := TabV_below hT bb4
  have HJ4 := Lib.hid (HJ1.out.below b4)
  have HV4 := Lib.hid (ValIs.below b4 _ _ hv2)
  have HB4 := Lib.hid bb4
  clear cD2 cH hv2 f0 f1 f2 f3 f4 f5 f6 bb b4 bb4 HJ1
  generalize w1.heap.size = k1 at *
  go_wp2_with fail
  rw [← HS1.out]
  refine (c2 _ tt).mono ?_
  rintro en w5 ⟨⟨x5, rfl, hx5⟩, b5⟩
  obtain ⟨p2, c2', q2, d2, rfl⟩ := jval_form hx5
  obtain ⟨W5, hW5⟩ : ∃ W5, W5 = w5.alloc (.cells #[.int .i64 u.kind, .bool u.b, .int .i64 u.n, .string u.s, .slice p2 u.items.length c2', .slice q2 u.mems.length d2, .int .i64 u.at'] 26) := ⟨_, rfl⟩
  have nW5 : Below w5.heap.size w5 W5 := by rw [hW5]; exact (Below.refl _ _).alloc (Nat.le_refl _) _
  have JW5 : JBox W5 w5.heap.size u p2 c2' q2 d2 := by rw [hW5]; exact JBox.of (Bj.new w5 #[.int .i64 u.kind, .bool u.b, .int .i64 u.n, .string u.s, .slice p2 u.items.length c2', .slice q2 u.mems.length d2, .int .i64 u.at'] 26)
  go_upto_region 8 with fail
  simp only [← hW5]
  clear hW5
  have b45 := b5.trans (nW5.mono b5.size)
  have HJ5 := Lib.hid (HJ4.out.below b45)
  have HV5 := Lib.hid (ValIs.below b45 _ _ HV4.out)
  have HU5 := Lib.hid (ValIs.below nW5 _ _ hx5)
  have HK5 := Lib.hid JW5
  have HB5 := Lib.hid (HB4.out.trans (b45.mono HB4.out.size))
  have t5 := TabV_below tt b45
  clear c2 hx5 nW5 b5 JW5 b45 HJ4 HV4 HB4 tt
  generalize w5.heap.size = k5 at *
  go_wp2_with fail
  rw [← HS2.out]
  refine (c3 _ t5).mono ?_
  rintro en w6 ⟨⟨x6, rfl, hx6⟩, b6⟩
  obtain ⟨A, cA', qA, dA, p5, c5, q5, d5, p6, c6, q6, d6, rfl, I0, I7, hva, hvo⟩ := arr2_form hx6
  obtain ⟨W6, hW6⟩ : ∃ W6, W6 = w6.alloc (.cells #[.int .i64 4, .bool false, .int .i64 0, .string ⟨#[]⟩, .slice (some A) 2 cA', .slice qA 0 dA, .int .i64 0] 26) := ⟨_, rfl⟩
  have nW6 : Below w6.heap.size w6 W6 := by rw [hW6]; exact (Below.refl _ _).alloc (Nat.le_refl _) _
  have JW6 : Bj W6 w6.heap.size #[.int .i64 4, .bool false, .int .i64 0, .string ⟨#[]⟩, .slice (some A) 2 cA', .slice qA 0 dA, .int .i64 0] 26 := by rw [hW6]; exact Bj.new w6 _ _
  go_upto_region 9 with fail
  simp only [← hW6]
  clear hW6
  have b56 := b6.trans (nW6.mono b6.size)
  have HJ6 := Lib.hid (HJ5.out.below b56)
  have HV6 := Lib.hid (ValIs.below b56 _ _ HV5.out)
  have HU6 := Lib.hid (ValIs.below b56 _ _ HU5.out)
  have HK6 := Lib.hid (HK5.out.below b56)
  have HA6 := Lib.hid (ValIs.below nW6 _ _ hva)
  have hO6 := ValIs.below nW6 _ _ hvo
  have HI6 := Lib.hid (I0.below nW6)
  obtain ⟨g0, g1, g2, g3, g4, g5, g6⟩ := I7.below nW6
  have HB6 := Lib.hid (HB5.out.trans (b56.mono HB5.out.size))
  have t6 := TabV_below t5 b56
  have x4 : W6.cell? ⟨w6.heap.size, 4, none⟩ = some (.slice (some A) 2 cA') := JW6.cell 4
  have cG6 := cG _ _ hO6
  clear c3 cG hx6 nW6 b6 JW6 b56 HJ5 HV5 HU5 HK5 HB5 t5 I0 I7 hva hvo hO6
  generalize w6.heap.size = k6 at *
  go_wp2_with fail
  refine cG6.mono ?_
  rintro en w7 ⟨⟨x7, rfl, hx7⟩, b7⟩
  obtain ⟨p4, c4, q4, d4, rfl⟩ := jval_form hx7
  obtain ⟨W7, hW7⟩ : ∃ W7, W7 = w7.alloc (.cells #[.int .i64 y.kind, .bool y.b, .int .i64 y.n, .string y.s, .slice p4 y.items.length c4, .slice q4 y.mems.length d4, .int .i64 y.at'] 26) := ⟨_, rfl⟩
  have nW7 : Below w7.heap.size w7 W7 := by rw [hW7]; exact (Below.refl _ _).alloc (Nat.le_refl _) _
  have JW7 : JBox W7 w7.heap.size y p4 c4 q4 d4 := by rw [hW7]; exact JBox.of (Bj.new w7 #[.int .i64 y.kind, .bool y.b, .int .i64 y.n, .string y.s, .slice p4 y.items.length c4, .slice q4 y.mems.length d4, .int .i64 y.at'] 26)
  go_upto_region 12 with fail
  simp only [← hW7]
  clear hW7
  have b67 := b7.trans (nW7.mono b7.size)
  have S0 : JBox W7.drew k1 v p1 c1' q1 d1 ∧ JBox W7.drew k5 u p2 c2' q2 d2 ∧ W7.drew.cell? ⟨k6, 4, none⟩ = some (.slice (some A) 2 cA') ∧ ItA W7.drew A a p5 c5 q5 d5 ∧ JBox W7.drew w7.heap.size y p4 c4 q4 d4 := ⟨(HJ6.out.below b67).below (Below.refl _ _).drew, (HK6.out.below b67).below (Below.refl _ _).drew, (b67.cell (vblock_lt x4)).trans x4, (HI6.out.below b67).below (Below.refl _ _).drew, JW7.below (Below.refl _ _).drew⟩
  have N0 : (ValIs W7.drew v (.agg #[.int .i64 v.kind, .bool v.b, .int .i64 v.n, .string v.s, .slice p1 v.items.length c1', .slice q1 v.mems.length d1, .int .i64 v.at']) ∧ ValIs W7.drew u (.agg #[.int .i64 u.kind, .bool u.b, .int .i64 u.n, .string u.s, .slice p2 u.items.length c2', .slice q2 u.mems.length d2, .int .i64 u.at']) ∧ ValIs W7.drew a (.agg #[.int .i64 a.kind, .bool a.b, .int .i64 a.n, .string a.s, .slice p5 a.items.length c5, .slice q5 a.mems.length d5, .int .i64 a.at']) ∧ ValIs W7.drew y (.agg #[.int .i64 y.kind, .bool y.b, .int .i64 y.n, .string y.s, .slice p4 y.items.length c4, .slice q4 y.mems.length d4, .int .i64 y.at']) ∧ Below w.heap.size w W7.drew) := ⟨ValIs.below (b67.trans (Below.refl _ _).drew) _ _ HV6.out, ValIs.below (b67.trans (Below.refl _ _).drew) _ _ HU6.out, ValIs.below (b67.trans (Below.refl _ _).drew) _ _ HA6.out, ValIs.below (nW7.trans (Below.refl _ _).drew) _ _ hx7, HB6.out.trans ((b67.trans (Below.refl _ _).drew).mono HB6.out.size)⟩
  have t7 : TabV W7.drew := TabV_below t6 (b67.trans (Below.refl _ _).drew)
  clear b67 b7 nW7 JW7 HJ6 HK6 HI6 HV6 HU6 HA6 HB6 x4 g0 g1 g2 g3 g4 g5 g6 cG6 t6 hx7
  generalize w7.heap.size = k7 at *
  have hNB : ∀ x1 x2 : World, Below x1.heap.size x1 x2 → (ValIs x1 v (.agg #[.int .i64 v.kind, .bool v.b, .int .i64 v.n, .string v.s, .slice p1 v.items.length c1', .slice q1 v.mems.length d1, .int .i64 v.at']) ∧ ValIs x1 u (.agg #[.int .i64 u.kind, .bool u.b, .int .i64 u.n, .string u.s, .slice p2 u.items.length c2', .slice q2 u.mems.length d2, .int .i64 u.at']) ∧ ValIs x1 a (.agg #[.int .i64 a.kind, .bool a.b, .int .i64 a.n, .string a.s, .slice p5 a.items.length c5, .slice q5 a.mems.length d5, .int .i64 a.at']) ∧ ValIs x1 y (.agg #[.int .i64 y.kind, .bool y.b, .int .i64 y.n, .string y.s, .slice p4 y.items.length c4, .slice q4 y.mems.length d4, .int .i64 y.at']) ∧ Below w.heap.size w x1) → (ValIs x2 v (.agg #[.int .i64 v.kind, .bool v.b, .int .i64 v.n, .string v.s, .slice p1 v.items.length c1', .slice q1 v.mems.length d1, .int .i64 v.at']) ∧ ValIs x2 u (.agg #[.int .i64 u.kind, .bool u.b, .int .i64 u.n, .string u.s, .slice p2 u.items.length c2', .slice q2 u.mems.length d2, .int .i64 u.at']) ∧ ValIs x2 a (.agg #[.int .i64 a.kind, .bool a.b, .int .i64 a.n, .string a.s, .slice p5 a.items.length c5, .slice q5 a.mems.length d5, .int .i64 a.at']) ∧ ValIs x2 y (.agg #[.int .i64 y.kind, .bool y.b, .int .i64 y.n, .string y.s, .slice p4 y.items.length c4, .slice q4 y.mems.length d4, .int .i64 y.at']) ∧ Below w.heap.size w x2) := fun x1 x2 hb h => ⟨ValIs.below hb _ _ h.1, ValIs.below hb _ _ h.2.1, ValIs.below hb _ _ h.2.2.1, ValIs.below hb _ _ h.2.2.2.1, h.2.2.2.2.trans (hb.mono h.2.2.2.2.size)⟩
  have hSB : ∀ x1 x2 : World, Below x1.heap.size x1 x2 → (x1.cell? ⟨k1, 0, none⟩ = some (.int .i64 v.kind) ∧ x1.cell? ⟨k1, 1, none⟩ = some (.bool v.b) ∧ x1.cell? ⟨k1, 2, none⟩ = some (.int .i64 v.n) ∧ x1.cell? ⟨k1, 3, none⟩ = some (.string v.s) ∧ x1.cell? ⟨k1, 4, none⟩ = some (.slice p1 v.items.length c1') ∧ x1.cell? ⟨k1, 5, none⟩ = some (.slice q1 v.mems.length d1) ∧ x1.cell? ⟨k1, 6, none⟩ = some (.int .i64 v.at') ∧ x1.cell? ⟨k5, 0, none⟩ = some (.int .i64 u.kind) ∧ x1.cell? ⟨k5, 1, none⟩ = some (.bool u.b) ∧ x1.cell? ⟨k5, 2, none⟩ = some (.int .i64 u.n) ∧ x1.cell? ⟨k5, 3, none⟩ = some (.string u.s) ∧ x1.cell? ⟨k5, 4, none⟩ = some (.slice p2 u.items.length c2') ∧ x1.cell? ⟨k5, 5, none⟩ = some (.slice q2 u.mems.length d2) ∧ x1.cell? ⟨k5, 6, none⟩ = some (.int .i64 u.at') ∧ x1.cell? ⟨k6, 4, none⟩ = some (.slice (some A) 2 cA') ∧ x1.cell? A = some (.int .i64 a.kind) ∧ x1.cell? ⟨A.block, A.off + 1, none⟩ = some (.bool a.b) ∧ x1.cell? ⟨A.block, A.off + 2, none⟩ = some (.int .i64 a.n) ∧ x1.cell? ⟨A.block, A.off + 3, none⟩ = some (.string a.s) ∧ x1.cell? ⟨A.block, A.off + 4, none⟩ = some (.slice p5 a.items.length c5) ∧ x1.cell? ⟨A.block, A.off + 5, none⟩ = some (.slice q5 a.mems.length d5) ∧ x1.cell? ⟨A.block, A.off + 6, none⟩ = some (.int .i64 a.at') ∧ x1.cell? ⟨k7, 0, none⟩ = some (.int .i64 y.kind) ∧ x1.cell? ⟨k7, 1, none⟩ = some (.bool y.b) ∧ x1.cell? ⟨k7, 2, none⟩ = some (.int .i64 y.n) ∧ x1.cell? ⟨k7, 3, none⟩ = some (.string y.s) ∧ x1.cell? ⟨k7, 4, none⟩ = some (.slice p4 y.items.length c4) ∧ x1.cell? ⟨k7, 5, none⟩ = some (.slice q4 y.mems.length d4) ∧ x1.cell? ⟨k7, 6, none⟩ = some (.int .i64 y.at')) → (x2.cell? ⟨k1, 0, none⟩ = some (.int .i64 v.kind) ∧ x2.cell? ⟨k1, 1, none⟩ = some (.bool v.b) ∧ x2.cell? ⟨k1, 2, none⟩ = some (.int .i64 v.n) ∧ x2.cell? ⟨k1, 3, none⟩ = some (.string v.s) ∧ x2.cell? ⟨k1, 4, none⟩ = some (.slice p1 v.items.length c1') ∧ x2.cell? ⟨k1, 5, none⟩ = some (.slice q1 v.mems.length d1) ∧ x2.cell? ⟨k1, 6, none⟩ = some (.int .i64 v.at') ∧ x2.cell? ⟨k5, 0, none⟩ = some (.int .i64 u.kind) ∧ x2.cell? ⟨k5, 1, none⟩ = some (.bool u.b) ∧ x2.cell? ⟨k5, 2, none⟩ = some (.int .i64 u.n) ∧ x2.cell? ⟨k5, 3, none⟩ = some (.string u.s) ∧ x2.cell? ⟨k5, 4, none⟩ = some (.slice p2 u.items.length c2') ∧ x2.cell? ⟨k5, 5, none⟩ = some (.slice q2 u.mems.length d2) ∧ x2.cell? ⟨k5, 6, none⟩ = some (.int .i64 u.at') ∧ x2.cell? ⟨k6, 4, none⟩ = some (.slice (some A) 2 cA') ∧ x2.cell? A = some (.int .i64 a.kind) ∧ x2.cell? ⟨A.block, A.off + 1, none⟩ = some (.bool a.b) ∧ x2.cell? ⟨A.block, A.off + 2, none⟩ = some (.int .i64 a.n) ∧ x2.cell? ⟨A.block, A.off + 3, none⟩ = some (.string a.s) ∧ x2.cell? ⟨A.block, A.off + 4, none⟩ = some (.slice p5 a.items.length c5) ∧ x2.cell? ⟨A.block, A.off + 5, none⟩ = some (.slice q5 a.mems.length d5) ∧ x2.cell? ⟨A.block, A.off + 6, none⟩ = some (.int .i64 a.at') ∧ x2.cell? ⟨k7, 0, none⟩ = some (.int .i64 y.kind) ∧ x2.cell? ⟨k7, 1, none⟩ = some (.bool y.b) ∧ x2.cell? ⟨k7, 2, none⟩ = some (.int .i64 y.n) ∧ x2.cell? ⟨k7, 3, none⟩ = some (.string y.s) ∧ x2.cell? ⟨k7, 4, none⟩ = some (.slice p4 y.items.length c4) ∧ x2.cell? ⟨k7, 5, none⟩ = some (.slice q4 y.mems.length d4) ∧ x2.cell? ⟨k7, 6, none⟩ = some (.int .i64 y.at')) := by
    intro x1 x2 hb h
    obtain ⟨z0, z1, z2, z3, z4, z5, z6, z7, z8, z9, z10, z11, z12, z13, z14, z15, z16, z17, z18, z19, z20, z21, z22, z23, z24, z25, z26, z27, z28⟩ := h
    exact ⟨(hb.cell (vblock_lt z0)).trans z0, (hb.cell (vblock_lt z1)).trans z1, (hb.cell (vblock_lt z2)).trans z2, (hb.cell (vblock_lt z3)).trans z3, (hb.cell (vblock_lt z4)).trans z4, (hb.cell (vblock_lt z5)).trans z5, (hb.cell (vblock_lt z6)).trans z6, (hb.cell (vblock_lt z7)).trans z7, (hb.cell (vblock_lt z8)).trans z8, (hb.cell (vblock_lt z9)).trans z9, (hb.cell (vblock_lt z10)).trans z10, (hb.cell (vblock_lt z11)).trans z11, (hb.cell (vblock_lt z12)).trans z12, (hb.cell (vblock_lt z13)).trans z13, (hb.cell (vblock_lt z14)).trans z14, (hb.cell (vblock_lt z15)).trans z15, (hb.cell (vblock_lt z16)).trans z16, (hb.cell (vblock_lt z17)).trans z17, (hb.cell (vblock_lt z18)).trans z18, (hb.cell (vblock_lt z19)).trans z19, (hb.cell (vblock_lt z20)).trans z20, (hb.cell (vblock_lt z21)).trans z21, (hb.cell (vblock_lt z22)).trans z22, (hb.cell (vblock_lt z23)).trans z23, (hb.cell (vblock_lt z24)).trans z24, (hb.cell (vblock_lt z25)).trans z25, (hb.cell (vblock_lt z26)).trans z26, (hb.cell (vblock_lt z27)).trans z27, (hb.cell (vblock_lt z28)).trans z28⟩
  replace S0 : (W7.drew.cell? ⟨k1, 0, none⟩ = some (.int .i64 v.kind) ∧ W7.drew.cell? ⟨k1, 1, none⟩ = some (.bool v.b) ∧ W7.drew.cell? ⟨k1, 2, none⟩ = some (.int .i64 v.n) ∧ W7.drew.cell? ⟨k1, 3, none⟩ = some (.string v.s) ∧ W7.drew.cell? ⟨k1, 4, none⟩ = some (.slice p1 v.items.length c1') ∧ W7.drew.cell? ⟨k1, 5, none⟩ = some (.slice q1 v.mems.length d1) ∧ W7.drew.cell? ⟨k1, 6, none⟩ = some (.int .i64 v.at') ∧ W7.drew.cell? ⟨k5, 0, none⟩ = some (.int .i64 u.kind) ∧ W7.drew.cell? ⟨k5, 1, none⟩ = some (.bool u.b) ∧ W7.drew.cell? ⟨k5, 2, none⟩ = some (.int .i64 u.n) ∧ W7.drew.cell? ⟨k5, 3, none⟩ = some (.string u.s) ∧ W7.drew.cell? ⟨k5, 4, none⟩ = some (.slice p2 u.items.length c2') ∧ W7.drew.cell? ⟨k5, 5, none⟩ = some (.slice q2 u.mems.length d2) ∧ W7.drew.cell? ⟨k5, 6, none⟩ = some (.int .i64 u.at') ∧ W7.drew.cell? ⟨k6, 4, none⟩ = some (.slice (some A) 2 cA') ∧ W7.drew.cell? A = some (.int .i64 a.kind) ∧ W7.drew.cell? ⟨A.block, A.off + 1, none⟩ = some (.bool a.b) ∧ W7.drew.cell? ⟨A.block, A.off + 2, none⟩ = some (.int .i64 a.n) ∧ W7.drew.cell? ⟨A.block, A.off + 3, none⟩ = some (.string a.s) ∧ W7.drew.cell? ⟨A.block, A.off + 4, none⟩ = some (.slice p5 a.items.length c5) ∧ W7.drew.cell? ⟨A.block, A.off + 5, none⟩ = some (.slice q5 a.mems.length d5) ∧ W7.drew.cell? ⟨A.block, A.off + 6, none⟩ = some (.int .i64 a.at') ∧ W7.drew.cell? ⟨k7, 0, none⟩ = some (.int .i64 y.kind) ∧ W7.drew.cell? ⟨k7, 1, none⟩ = some (.bool y.b) ∧ W7.drew.cell? ⟨k7, 2, none⟩ = some (.int .i64 y.n) ∧ W7.drew.cell? ⟨k7, 3, none⟩ = some (.string y.s) ∧ W7.drew.cell? ⟨k7, 4, none⟩ = some (.slice p4 y.items.length c4) ∧ W7.drew.cell? ⟨k7, 5, none⟩ = some (.slice q4 y.mems.length d4) ∧ W7.drew.cell? ⟨k7, 6, none⟩ = some (.int .i64 y.at')) := by
    obtain ⟨⟨f0, f1, f2, f3, f4, f5, f6⟩, ⟨g0, g1, g2, g3, g4, g5, g6⟩, h4, ⟨i0, i1, i2, i3, i4, i5, i6⟩, ⟨j0, j1, j2, j3, j4, j5, j6⟩⟩ := S0
    exact ⟨f0, f1, f2, f3, f4, f5, f6, g0, g1, g2, g3, g4, g5, g6, h4, i0, i1, i2, i3, i4, i5, i6, j0, j1, j2, j3, j4, j5, j6⟩
  try simp only [List.append_eq, List.cons_append, List.nil_append]
  go_region_held3 (fun w' => (w'.cell? ⟨k1, 0, none⟩ = some (.int .i64 v.kind) ∧ w'.cell? ⟨k1, 1, none⟩ = some (.bool v.b) ∧ w'.cell? ⟨k1, 2, none⟩ = some (.int .i64 v.n) ∧ w'.cell? ⟨k1, 3, none⟩ = some (.string v.s) ∧ w'.cell? ⟨k1, 4, none⟩ = some (.slice p1 v.items.length c1') ∧ w'.cell? ⟨k1, 5, none⟩ = some (.slice q1 v.mems.length d1) ∧ w'.cell? ⟨k1, 6, none⟩ = some (.int .i64 v.at') ∧ w'.cell? ⟨k5, 0, none⟩ = some (.int .i64 u.kind) ∧ w'.cell? ⟨k5, 1, none⟩ = some (.bool u.b) ∧ w'.cell? ⟨k5, 2, none⟩ = some (.int .i64 u.n) ∧ w'.cell? ⟨k5, 3, none⟩ = some (.string u.s) ∧ w'.cell? ⟨k5, 4, none⟩ = some (.slice p2 u.items.length c2') ∧ w'.cell? ⟨k5, 5, none⟩ = some (.slice q2 u.mems.length d2) ∧ w'.cell? ⟨k5, 6, none⟩ = some (.int .i64 u.at') ∧ w'.cell? ⟨k6, 4, none⟩ = some (.slice (some A) 2 cA') ∧ w'.cell? A = some (.int .i64 a.kind) ∧ w'.cell? ⟨A.block, A.off + 1, none⟩ = some (.bool a.b) ∧ w'.cell? ⟨A.block, A.off + 2, none⟩ = some (.int .i64 a.n) ∧ w'.cell? ⟨A.block, A.off + 3, none⟩ = some (.string a.s) ∧ w'.cell? ⟨A.block, A.off + 4, none⟩ = some (.slice p5 a.items.length c5) ∧ w'.cell? ⟨A.block, A.off + 5, none⟩ = some (.slice q5 a.mems.length d5) ∧ w'.cell? ⟨A.block, A.off + 6, none⟩ = some (.int .i64 a.at') ∧ w'.cell? ⟨k7, 0, none⟩ = some (.int .i64 y.kind) ∧ w'.cell? ⟨k7, 1, none⟩ = some (.bool y.b) ∧ w'.cell? ⟨k7, 2, none⟩ = some (.int .i64 y.n) ∧ w'.cell? ⟨k7, 3, none⟩ = some (.string y.s) ∧ w'.cell? ⟨k7, 4, none⟩ = some (.slice p4 y.items.length c4) ∧ w'.cell? ⟨k7, 5, none⟩ = some (.slice q4 y.mems.length d4) ∧ w'.cell? ⟨k7, 6, none⟩ = some (.int .i64 y.at'))) (first | with_reducible exact S4 | with_reducible exact S3 | with_reducible exact S2x | with_reducible exact S1x | with_reducible exact S0) (first | (go_at_call 9; with_reducible refine (cE3 _ _ _ N3.1 N3.2.2.2.1).mono ?_; rintro e u4 ⟨rfl, bb4⟩; have S4 := hSB _ _ bb4 S3; have N4 := hNB _ _ bb4 N3) | (go_at_call 9; with_reducible refine (cE2 _ _ _ N2.1 N2.2.2.1).mono ?_; rintro e u3 ⟨rfl, bb3⟩; have S3 := hSB _ _ bb3 S2x; have N3 := hNB _ _ bb3 N2) | (go_at_call 9; with_reducible refine (cE1 _ _ _ N1.1 N1.2.1).mono ?_; rintro e u2 ⟨rfl, bb2⟩; have S2x := hSB _ _ bb2 S1x; have N2 := hNB _ _ bb2 N1) | (go_at_call 6; with_reducible refine (cA _ t7).mono ?_; rintro e u1 ⟨rfl, bb1⟩; have S1x := hSB _ _ bb1 S0; have N1 := hNB _ _ bb1 N0))
  all_goals
    go_wp2
    go_ret
    exact ⟨by simp, N4.2.2.2.2⟩
end Go.Proofs.YtkkiklaoljdhhaaGreatDoor
end
