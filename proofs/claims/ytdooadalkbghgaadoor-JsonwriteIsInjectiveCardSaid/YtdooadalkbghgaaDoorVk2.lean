/- Packed from the texts JwN JwT. -/
import Derived.Test.YtdooadalkbghgaaDoorVJwI
import Derived.Test.YtdooadalkbghgaaDoorVk3
import Derived.Test.YtdooadalkbghgaaDoorVkX
section
namespace Go.Proofs.YtdooadalkbghgaaDoor
open Go.RowKit
theorem text_ne (n : ValD) : n.text ≠ [] := by
  rw [vtext_eq]
  intro h
  split at h
  · cases h
  split at h
  · unfold boolT at h
    split at h <;> cases h
  split at h
  · obtain ⟨c, r, hc, _⟩ := itoa_head n.n
    rw [hc] at h
    cases h
  split at h
  · unfold quoteJ at h
    cases h
  split at h <;> cases h
set_option maxRecDepth 100000 in
set_option maxHeartbeats 16000000 in
theorem jw_Write (n : ValD) (v : Value) (w : World) (hc : n.bulk ≤ 1000000) (hr : n.R64) (hT : TabW w) (hn : ValIs w n v) : Calls Tryd.prog 9 #[v] w fun e w' => e = .returned (.tuple #[.string (wrZ n), .int .i64 (chkZ n)]) ∧ Below w.heap.size w w' := by
  obtain ⟨W0, hW0⟩ : ∃ W0, W0 = w.alloc (.cells v.cells 25) := ⟨_, rfl⟩
  have hb0 : Below w.heap.size w W0 := by rw [hW0]; exact (Below.refl _ _).alloc (Nat.le_refl _) _
  have hn0 := hn.below hb0
  have hT0 := TabW_below hT hb0
  have c1 := jw_Check n v W0 hc hT0.1 hn0
  have hlen := text_bulk n hr
  have HP := Lib.hid (wrP n)
  have HV := Lib.hid (fun (h : n.okB = true) (wb : World) (hb : Below W0.heap.size W0 wb) => show Calls Tryd.prog 22 #[.pointer (some ⟨wb.heap.size, 0, none⟩), v] (wb.alloc (.cells #[.pointer none, .slice none 0 0] 54)) (WrO wb.heap.size (.slice none 0 0) [] n.text (wb.alloc (.cells #[.pointer none, .slice none 0 0] 54))) from wv_all n.bulk n v (Nat.le_refl _) ⟨hc, h, hr⟩ wb _ _ _ [] (hn0.below hb) ((Below.refl _ _).alloc (Nat.le_refl _) _) (Nat.le_refl _) (TabW_below hT0 hb) (Wst.new wb) (by simp only [List.length_nil]; omega))
  have HNE := Lib.hid (text_ne n)
  obtain ⟨p, c, q, d2, rfl, -, -⟩ := (val_is w n v).1 hn
  have B0 : Bj W0 w.heap.size #[.int .i64 n.kind, .bool n.b, .int .i64 n.n, .string n.s, .slice p n.items.length c, .slice q n.mems.length d2, .int .i64 n.at'] 25 := by rw [hW0]; exact Bj.new w _ _
  have HB0 := Lib.hid hb0
  have HBJ := Lib.hid B0
  obtain ⟨⟨f0, f1, f2, f3, f4, f5, f6⟩, -⟩ := B0.seven
  clear B0 hn hT hb0 hn0 hT0 hlen hr hc
  generalize chkZ n = Z at *
  generalize wrZ n = R at *
  generalize n.okB = OK at *
  generalize n.text = TX at *
  go_enter Tryd.func9, Tryd.ntmps9
  go_upto_region 1 with fail
  simp only [Value.cells] at hW0
  simp only [← hW0]
  clear hW0
  rcases HP.out with ⟨rfl, rfl, rfl⟩ | ⟨rfl, rfl⟩
  · clear HP
    go_wp2_with fail
    refine c1.mono ?_
    rintro e w1 ⟨rfl, b1⟩
    have hHB1 := HB0.out.trans (b1.mono HB0.out.size)
    have hba : ∀ o : Obj, Below w1.heap.size w1 (w1.alloc o) := fun o => (Below.refl _ _).alloc (Nat.le_refl _) o
    obtain ⟨⟨g0, g1, g2, g3, g4, g5, g6⟩, -⟩ := ((HBJ.out.more b1).more (hba (.cells #[.pointer none, .slice none 0 0] 54))).seven
    have c2 := HV.out trivial w1 b1
    have HB1 := Lib.hid (hHB1.trans ((hba (.cells #[.pointer none, .slice none 0 0] 54)).mono hHB1.size))
    have HW1 := Lib.hid (Wst.new w1)
    have hle1 := hHB1.size
    have hz1 : (w1.alloc (.cells #[.pointer none, .slice none 0 0] 54)).heap.size = w1.heap.size + 1 := by simp
    obtain ⟨W2, hW2⟩ : ∃ W2, W2 = w1.alloc (.cells #[.pointer none, .slice none 0 0] 54) := ⟨_, rfl⟩
    rw [← hW2] at g0 g1 g2 g3 g4 g5 g6 c2 HB1 HW1 hz1
    clear b1 c1 f0 f1 f2 f3 f4 f5 f6 hba hHB1
    go_upto_region 5 with fail
    simp only [← hW2]
    clear hW2
    go_wp2_with fail
    refine c2.mono ?_
    rintro e w3 ⟨rfl, vd3, hW3, hC3⟩
    rw [List.nil_append] at hW3
    have hb3 : Below w.heap.size w w3 := hC3.below HB1.out hle1 (fun k hk => by cases hk) HB1.out.size
    have c3 := wj_String w.heap.size w1.heap.size hle1 TX vd3 w3 hW3 HNE.out
    have HB3 := Lib.hid hb3
    have hpw := hW3.lt
    clear c2 hW3 hC3 hb3 g0 g1 g2 g3 g4 g5 g6
    go_wp2_with fail
    refine c3.mono ?_
    rintro e w4 ⟨rfl, b4⟩
    have HB4 := Lib.hid (HB3.out.trans b4)
    clear b4 c3
    go_wp2
    exact bodyPost_ret (v := .tuple #[.string (ofBytes TX), .int .i64 0]) (by simp [results, Tryd.results9, go_sem]) rfl ⟨rfl, HB4.out⟩
  · clear HP HV
    go_wp2_with fail
    refine c1.mono ?_
    rintro e w1 ⟨rfl, b1⟩
    have HB1 := Lib.hid (HB0.out.trans (b1.mono HB0.out.size))
    go_wp2
    exact bodyPost_ret (v := .tuple #[.string ⟨#[]⟩, .int .i64 22]) (by simp [results, Tryd.results9, go_sem]) rfl ⟨rfl, HB1.out⟩
end Go.Proofs.YtdooadalkbghgaaDoor
end
section
namespace Go.Proofs.YtdooadalkbghgaaDoor
open Go.RowKit
theorem val_form {w : World} {n : ValD} {x : Value} (h : ValIs w n x) : ∃ p c q d, x = .agg #[.int .i64 n.kind, .bool n.b, .int .i64 n.n, .string n.s, .slice p n.items.length c, .slice q n.mems.length d, .int .i64 n.at'] := by
  obtain ⟨p, c, q, d, h, -, -⟩ := (val_is w n x).1 h
  exact ⟨p, c, q, d, h⟩
theorem items_two {w : World} {m n : ValD} {c0 c1 c2 c3 c4 c5 c6 d0 d1 d2 d3 d4 d5 d6 : Value} (h : ValIs w m (.agg #[c0, c1, c2, c3, c4, c5, c6])) (k : ValIs w n (.agg #[d0, d1, d2, d3, d4, d5, d6])) : ItemsAt (w.alloc (.cells #[c0, c1, c2, c3, c4, c5, c6, d0, d1, d2, d3, d4, d5, d6] 25)) (some ⟨w.heap.size, 0, none⟩) 0 [m, n] := by
  have hB := Bj.new w #[c0, c1, c2, c3, c4, c5, c6, d0, d1, d2, d3, d4, d5, d6] 25
  have hb : Below w.heap.size w (w.alloc (.cells #[c0, c1, c2, c3, c4, c5, c6, d0, d1, d2, d3, d4, d5, d6] 25)) := (Below.refl _ _).alloc (Nat.le_refl _) _
  rw [ItemsAt, ItemsAt, ItemsAt_nil]
  exact ⟨⟨⟨w.heap.size, 0, none⟩, c0, c1, c2, c3, c4, c5, c6, rfl, ⟨hB.cell 0, hB.cell 1, hB.cell 2, hB.cell 3, hB.cell 4, hB.cell 5, hB.cell 6⟩, h.below hb⟩, ⟨⟨w.heap.size, 0, none⟩, d0, d1, d2, d3, d4, d5, d6, rfl, ⟨hB.cell 7, hB.cell 8, hB.cell 9, hB.cell 10, hB.cell 11, hB.cell 12, hB.cell 13⟩, k.below hb⟩, trivial⟩
theorem mems_two {w : World} {m n : ValD} {a b : ByteArray} {c0 c1 c2 c3 c4 c5 c6 d0 d1 d2 d3 d4 d5 d6 : Value} (h : ValIs w m (.agg #[c0, c1, c2, c3, c4, c5, c6])) (k : ValIs w n (.agg #[d0, d1, d2, d3, d4, d5, d6])) : MemsAt (w.alloc (.cells #[.string a, c0, c1, c2, c3, c4, c5, c6, .int .i64 0, .string b, d0, d1, d2, d3, d4, d5, d6, .int .i64 0] 36)) (some ⟨w.heap.size, 0, none⟩) 0 [.mk a m 0, .mk b n 0] := by
  have hB := Bj.new w #[.string a, c0, c1, c2, c3, c4, c5, c6, .int .i64 0, .string b, d0, d1, d2, d3, d4, d5, d6, .int .i64 0] 36
  have hb : Below w.heap.size w (w.alloc (.cells #[.string a, c0, c1, c2, c3, c4, c5, c6, .int .i64 0, .string b, d0, d1, d2, d3, d4, d5, d6, .int .i64 0] 36)) := (Below.refl _ _).alloc (Nat.le_refl _) _
  rw [MemsAt, MemsAt, MemsAt_nil, MemAt, MemAt]
  exact ⟨⟨⟨w.heap.size, 0, none⟩, c0, c1, c2, c3, c4, c5, c6, rfl, ⟨hB.cell 0, hB.cell 1, hB.cell 2, hB.cell 3, hB.cell 4, hB.cell 5, hB.cell 6, hB.cell 7, hB.cell 8⟩, h.below hb⟩, ⟨⟨w.heap.size, 0, none⟩, d0, d1, d2, d3, d4, d5, d6, rfl, ⟨hB.cell 9, hB.cell 10, hB.cell 11, hB.cell 12, hB.cell 13, hB.cell 14, hB.cell 15, hB.cell 16, hB.cell 17⟩, k.below hb⟩, trivial⟩
def xaI : ValD := .mk 2 false (-1) ⟨#[]⟩ [] [] 0
def xaN : ValD := .mk 0 false 0 ⟨#[]⟩ [] [] 0
def xaS : ValD := .mk 3 false 0 ⟨#[120]⟩ [] [] 0
def xaT : ValD := .mk 1 true 0 ⟨#[]⟩ [] [] 0
def xaA : ValD := .mk 4 false 0 ⟨#[]⟩ [xaI, xaN] [] 0
def xaO : ValD := .mk 5 false 0 ⟨#[]⟩ [] [.mk ⟨#[97]⟩ xaA 0, .mk ⟨#[]⟩ xaS 0] 0
def xaP : ValD := .mk 5 false 0 ⟨#[]⟩ [] [.mk ⟨#[97]⟩ xaN 0, .mk ⟨#[97]⟩ xaT 0] 0
theorem xa_one : wrZ xaO = ⟨#[123, 34, 97, 34, 58, 91, 45, 49, 44, 110, 117, 108, 108, 93, 44, 34, 34, 58, 34, 120, 34, 125]⟩ := by kernel_rfl
theorem xa_two : chkZ xaO = 0 := by kernel_rfl
theorem xa_three : chkZ xaP = 22 := by kernel_rfl
theorem xa_four : xaI.bulk ≤ 100 ∧ xaN.bulk ≤ 100 ∧ xaS.bulk ≤ 100 ∧ xaT.bulk ≤ 100 ∧ xaA.bulk ≤ 100 ∧ xaO.bulk ≤ 100 ∧ xaP.bulk ≤ 100 := by decide +kernel
theorem xa_r64O : xaO.R64 := by
  simp [xaO, xaA, xaI, xaN, xaS, ValD.R64, R64s, R64m, MemD.R64]
theorem xa_r64P : xaP.R64 := by
  simp [xaP, xaN, xaT, ValD.R64, R64s, R64m, MemD.R64]
set_option maxRecDepth 100000 in
set_option maxHeartbeats 64000000 in
theorem jw_alive (w : World) (hT : TabW w) : Calls Tryd.prog 8 #[] w fun e w' => e = .returned (.bool true) ∧ Below w.heap.size w w' := by
  have hs := xa_four
  have cInt := jw_IntV (-1) w
  have cNull := fun wx => jw_Null wx
  have cStr := fun wx => jw_String ⟨#[120]⟩ wx
  have cTrue := fun wx => jw_BoolV true wx
  have cArr := fun wx a c (h : ItemsAt wx (some a) 0 [xaI, xaN]) => jw_Array [xaI, xaN] (fun k hk => by
    rcases List.mem_cons.1 hk with rfl | hk
    · omega
    · rw [List.mem_singleton.1 hk]; omega) (some a) c wx h (by decide)
  have cObj := fun wx a c (h : MemsAt wx (some a) 0 [.mk ⟨#[97]⟩ xaA 0, .mk ⟨#[]⟩ xaS 0]) => jw_Object [.mk ⟨#[97]⟩ xaA 0, .mk ⟨#[]⟩ xaS 0] (fun k hk => by
    rcases List.mem_cons.1 hk with rfl | hk
    · show xaA.bulk ≤ _; omega
    · rw [List.mem_singleton.1 hk]; show xaS.bulk ≤ _; omega) (some a) c wx h (by decide)
  have cObp := fun wx a c (h : MemsAt wx (some a) 0 [.mk ⟨#[97]⟩ xaN 0, .mk ⟨#[97]⟩ xaT 0]) => jw_Object [.mk ⟨#[97]⟩ xaN 0, .mk ⟨#[97]⟩ xaT 0] (fun k hk => by
    rcases List.mem_cons.1 hk with rfl | hk
    · show xaN.bulk ≤ _; omega
    · rw [List.mem_singleton.1 hk]; show xaT.bulk ≤ _; omega) (some a) c wx h (by decide)
  have cMa := fun wx v (h : ValIs wx xaA v) => jw_Member ⟨#[97]⟩ xaA v wx (by omega) h
  have cMs := fun wx v (h : ValIs wx xaS v) => jw_Member ⟨#[]⟩ xaS v wx (by omega) h
  have cMn := fun wx v (h : ValIs wx xaN v) => jw_Member ⟨#[97]⟩ xaN v wx (by omega) h
  have cMt := fun wx v (h : ValIs wx xaT v) => jw_Member ⟨#[97]⟩ xaT v wx (by omega) h
  have cW := fun wx v (ht : TabW wx) (h : ValIs wx xaO v) => jw_Write xaO v wx (by omega) xa_r64O ht h
  have cX := fun wx v (ht : TabW wx) (h : ValIs wx xaP v) => jw_Write xaP v wx (by omega) xa_r64P ht h
  have cC := fun wx v (ht : TabW wx) (h : ValIs wx xaO v) => jw_Check xaO v wx (by omega) ht.1 h
  rw [xa_one, xa_two] at cW
  rw [xa_three] at cX
  rw [xa_two] at cC
  rw [show ValD.mk 2 false (-1) ⟨#[]⟩ [] [] 0 = xaI from rfl] at cInt
  rw [show ValD.mk 0 false 0 ⟨#[]⟩ [] [] 0 = xaN from rfl] at cNull
  rw [show ValD.mk 3 false 0 ⟨#[120]⟩ [] [] 0 = xaS from rfl] at cStr
  rw [show ValD.mk 1 true 0 ⟨#[]⟩ [] [] 0 = xaT from rfl] at cTrue
  rw [show ValD.mk 4 false 0 ⟨#[]⟩ [xaI, xaN] [] 0 = xaA from rfl, show ([xaI, xaN] : List ValD).length = 2 from rfl] at cArr
  rw [show ValD.mk 5 false 0 ⟨#[]⟩ [] [.mk ⟨#[97]⟩ xaA 0, .mk ⟨#[]⟩ xaS 0] 0 = xaO from rfl, show ([.mk ⟨#[97]⟩ xaA 0, .mk ⟨#[]⟩ xaS 0] : List MemD).length = 2 from rfl] at cObj
  rw [show ValD.mk 5 false 0 ⟨#[]⟩ [] [.mk ⟨#[97]⟩ xaN 0, .mk ⟨#[97]⟩ xaT 0] 0 = xaP from rfl, show ([.mk ⟨#[97]⟩ xaN 0, .mk ⟨#[97]⟩ xaT 0] : List MemD).length = 2 from rfl] at cObp
  generalize wrZ xaP = SP at *
  clear hs
  generalize xaO = nO at *
  generalize xaP = nP at *
  generalize xaA = nA at *
  generalize xaI = nI at *
  generalize xaN = nN at *
  generalize xaS = nS at *
  generalize xaT = nT at *
  have B0 := Lib.hid (Below.refl w.heap.size w)
  go_enter Tryd.func8, Tryd.ntmps8
  go_wp2_with fail
  refine (cInt).mono ?_
  rintro e w1 ⟨⟨x1, rfl, hx1⟩, b1⟩
  replace hx1 := hx1.full
  obtain ⟨p1, c1, q1, d1, rfl⟩ := val_form hx1
  replace B0 := Lib.hid (B0.out.trans (b1.mono B0.out.size))
  clear b1
  have X1 := Lib.hid hx1
  clear hx1
  clear cInt
  go_wp2_with fail
  refine (cNull _).mono ?_
  rintro e w2 ⟨⟨x2, rfl, hx2⟩, b2⟩
  replace hx2 := hx2.full
  obtain ⟨p2, c2, q2, d2, rfl⟩ := val_form hx2
  replace B0 := Lib.hid (B0.out.trans (b2.mono B0.out.size))
  replace X1 := Lib.hid (X1.out.below b2)
  clear b2
  have X2 := Lib.hid hx2
  clear hx2
  have b3 : Below w2.heap.size w2 (w2.alloc (.cells #[.int .i64 nI.kind, .bool nI.b, .int .i64 nI.n, .string nI.s, .slice p1 nI.items.length c1, .slice q1 nI.mems.length d1, .int .i64 nI.at', .int .i64 nN.kind, .bool nN.b, .int .i64 nN.n, .string nN.s, .slice p2 nN.items.length c2, .slice q2 nN.mems.length d2, .int .i64 nN.at'] 25)) := (Below.refl _ _).alloc (Nat.le_refl _) _
  have h3 := items_two X1.out X2.out
  replace B0 := Lib.hid (B0.out.trans (b3.mono B0.out.size))
  clear b3
  clear X1 X2
  go_wp2_with fail
  refine (cArr _ _ _ h3).mono ?_
  rintro e w4 ⟨⟨x4, rfl, hx4⟩, b4⟩
  replace hx4 := hx4.full
  obtain ⟨p4, c4, q4, d4, rfl⟩ := val_form hx4
  replace B0 := Lib.hid (B0.out.trans (b4.mono B0.out.size))
  clear b4
  have X4 := Lib.hid hx4
  clear hx4
  clear h3 cArr
  go_wp2_with fail
  refine (cMa _ _ X4.out).mono ?_
  rintro e w5 ⟨⟨y0, y1, y2, y3, y4, y5, y6, rfl, hx5⟩, b5⟩
  replace hx5 := hx5.full
  obtain ⟨p5, c5, q5, d5, he⟩ := val_form hx5
  simp only [Value.agg.injEq, Array.mk.injEq, List.cons.injEq, and_true] at he
  obtain ⟨rfl, rfl, rfl, rfl, rfl, rfl, rfl⟩ := he
  replace B0 := Lib.hid (B0.out.trans (b5.mono B0.out.size))
  clear b5
  have X5 := Lib.hid hx5
  clear hx5
  clear X4 cMa
  go_wp2_with fail
  refine (cStr _).mono ?_
  rintro e w6 ⟨⟨x6, rfl, hx6⟩, b6⟩
  replace hx6 := hx6.full
  obtain ⟨p6, c6, q6, d6, rfl⟩ := val_form hx6
  replace B0 := Lib.hid (B0.out.trans (b6.mono B0.out.size))
  replace X5 := Lib.hid (X5.out.below b6)
  clear b6
  have X6 := Lib.hid hx6
  clear hx6
  clear cStr
  go_wp2_with fail
  refine (cMs _ _ X6.out).mono ?_
  rintro e w7 ⟨⟨y0, y1, y2, y3, y4, y5, y6, rfl, hx7⟩, b7⟩
  replace hx7 := hx7.full
  obtain ⟨p7, c7, q7, d7, he⟩ := val_form hx7
  simp only [Value.agg.injEq, Array.mk.injEq, List.cons.injEq, and_true] at he
  obtain ⟨rfl, rfl, rfl, rfl, rfl, rfl, rfl⟩ := he
  replace B0 := Lib.hid (B0.out.trans (b7.mono B0.out.size))
  replace X5 := Lib.hid (X5.out.below b7)
  clear b7
  have X7 := Lib.hid hx7
  clear hx7
  clear X6 cMs
  have b8 : Below w7.heap.size w7 (w7.alloc (.cells #[.string ⟨#[97]⟩, .int .i64 nA.kind, .bool nA.b, .int .i64 nA.n, .string nA.s, .slice p5 nA.items.length c5, .slice q5 nA.mems.length d5, .int .i64 nA.at', .int .i64 0, .string ⟨#[]⟩, .int .i64 nS.kind, .bool nS.b, .int .i64 nS.n, .string nS.s, .slice p7 nS.items.length c7, .slice q7 nS.mems.length d7, .int .i64 nS.at', .int .i64 0] 36)) := (Below.refl _ _).alloc (Nat.le_refl _) _
  have h8 := mems_two (a := ⟨#[97]⟩) (b := ⟨#[]⟩) X5.out X7.out
  replace B0 := Lib.hid (B0.out.trans (b8.mono B0.out.size))
  clear b8
  clear X5 X7
  go_wp2_with fail
  refine (cObj _ _ _ h8).mono ?_
  rintro e w9 ⟨⟨x9, rfl, hx9⟩, b9⟩
  replace hx9 := hx9.full
  obtain ⟨p9, c9, q9, d9, rfl⟩ := val_form hx9
  replace B0 := Lib.hid (B0.out.trans (b9.mono B0.out.size))
  clear b9
  have X9 := Lib.hid hx9
  clear hx9
  clear h8 cObj
  have bA : Below w9.heap.size w9 (w9.alloc (.cells #[.int .i64 nO.kind, .bool nO.b, .int .i64 nO.n, .string nO.s, .slice p9 nO.items.length c9, .slice q9 nO.mems.length d9, .int .i64 nO.at'] 25)) := (Below.refl _ _).alloc (Nat.le_refl _) _
  have ZV := Lib.hid (Bj.new w9 #[.int .i64 nO.kind, .bool nO.b, .int .i64 nO.n, .string nO.s, .slice p9 nO.items.length c9, .slice q9 nO.mems.length d9, .int .i64 nO.at'] 25)
  replace B0 := Lib.hid (B0.out.trans (bA.mono B0.out.size))
  replace X9 := Lib.hid (X9.out.below bA)
  clear bA
  have tA := TabW_below hT B0.out
  go_wp2_with fail
  refine (cW _ _ tA X9.out).mono ?_
  rintro e w10 ⟨rfl, b10⟩
  replace B0 := Lib.hid (B0.out.trans (b10.mono B0.out.size))
  replace X9 := Lib.hid (X9.out.below b10)
  replace ZV := Lib.hid (ZV.out.more b10)
  clear b10
  clear tA cW
  go_wp2_with fail
  refine (cNull _).mono ?_
  rintro e w11 ⟨⟨x11, rfl, hx11⟩, b11⟩
  replace hx11 := hx11.full
  obtain ⟨p11, c11, q11, d11, rfl⟩ := val_form hx11
  replace B0 := Lib.hid (B0.out.trans (b11.mono B0.out.size))
  replace X9 := Lib.hid (X9.out.below b11)
  replace ZV := Lib.hid (ZV.out.more b11)
  clear b11
  have X11 := Lib.hid hx11
  clear hx11
  clear cNull
  go_wp2_with fail
  refine (cMn _ _ X11.out).mono ?_
  rintro e w12 ⟨⟨y0, y1, y2, y3, y4, y5, y6, rfl, hx12⟩, b12⟩
  replace hx12 := hx12.full
  obtain ⟨p12, c12, q12, d12, he⟩ := val_form hx12
  simp only [Value.agg.injEq, Array.mk.injEq, List.cons.injEq, and_true] at he
  obtain ⟨rfl, rfl, rfl, rfl, rfl, rfl, rfl⟩ := he
  replace B0 := Lib.hid (B0.out.trans (b12.mono B0.out.size))
  replace X9 := Lib.hid (X9.out.below b12)
  replace ZV := Lib.hid (ZV.out.more b12)
  clear b12
  have X12 := Lib.hid hx12
  clear hx12
  clear X11 cMn
  go_wp2_with fail
  refine (cTrue _).mono ?_
  rintro e w13 ⟨⟨x13, rfl, hx13⟩, b13⟩
  replace hx13 := hx13.full
  obtain ⟨p13, c13, q13, d13, rfl⟩ := val_form hx13
  replace B0 := Lib.hid (B0.out.trans (b13.mono B0.out.size))
  replace X9 := Lib.hid (X9.out.below b13)
  replace ZV := Lib.hid (ZV.out.more b13)
  replace X12 := Lib.hid (X12.out.below b13)
  clear b13
  have X13 := Lib.hid hx13
  clear hx13
  clear cTrue
  go_wp2_with fail
  refine (cMt _ _ X13.out).mono ?_
  rintro e w14 ⟨⟨y0, y1, y2, y3, y4, y5, y6, rfl, hx14⟩, b14⟩
  replace hx14 := hx14.full
  obtain ⟨p14, c14, q14, d14, he⟩ := val_form hx14
  simp only [Value.agg.injEq, Array.mk.injEq, List.cons.injEq, and_true] at he
  obtain ⟨rfl, rfl, rfl, rfl, rfl, rfl, rfl⟩ := he
  replace B0 := Lib.hid (B0.out.trans (b14.mono B0.out.size))
  replace X9 := Lib.hid (X9.out.below b14)
  replace ZV := Lib.hid (ZV.out.more b14)
  replace X12 := Lib.hid (X12.out.below b14)
  clear b14
  have X14 := Lib.hid hx14
  clear hx14
  clear X13 cMt
  have b15 : Below w14.heap.size w14 (w14.alloc (.cells #[.string ⟨#[97]⟩, .int .i64 nN.kind, .bool nN.b, .int .i64 nN.n, .string nN.s, .slice p12 nN.items.length c12, .slice q12 nN.mems.length d12, .int .i64 nN.at', .int .i64 0, .string ⟨#[97]⟩, .int .i64 nT.kind, .bool nT.b, .int .i64 nT.n, .string nT.s, .slice p14 nT.items.length c14, .slice q14 nT.mems.length d14, .int .i64 nT.at', .int .i64 0] 36)) := (Below.refl _ _).alloc (Nat.le_refl _) _
  have h15 := mems_two (a := ⟨#[97]⟩) (b := ⟨#[97]⟩) X12.out X14.out
  replace B0 := Lib.hid (B0.out.trans (b15.mono B0.out.size))
  replace X9 := Lib.hid (X9.out.below b15)
  replace ZV := Lib.hid (ZV.out.more b15)
  clear b15
  clear X12 X14
  go_wp2_with fail
  refine (cObp _ _ _ h15).mono ?_
  rintro e w16 ⟨⟨x16, rfl, hx16⟩, b16⟩
  replace hx16 := hx16.full
  obtain ⟨p16, c16, q16, d16, rfl⟩ := val_form hx16
  replace B0 := Lib.hid (B0.out.trans (b16.mono B0.out.size))
  replace X9 := Lib.hid (X9.out.below b16)
  replace ZV := Lib.hid (ZV.out.more b16)
  clear b16
  have X16 := Lib.hid hx16
  clear hx16
  clear h15 cObp
  have tA := TabW_below hT B0.out
  go_wp2_with fail
  refine (cX _ _ tA X16.out).mono ?_
  rintro e w17 ⟨rfl, b17⟩
  clear X16
  replace B0 := Lib.hid (B0.out.trans (b17.mono B0.out.size))
  replace X9 := Lib.hid (X9.out.below b17)
  replace ZV := Lib.hid (ZV.out.more b17)
  clear b17
  clear tA cX
  obtain ⟨⟨f0, f1, f2, f3, f4, f5, f6⟩, -⟩ := ZV.out.seven
  have tA := TabW_below hT B0.out
  have cC := cC _ _ tA X9.out
  clear X9 ZV tA
  go_wp2_with fail
  refine cC.mono ?_
  rintro e w18 ⟨rfl, b18⟩
  have B9 := B0.out.trans (b18.mono B0.out.size)
  go_wp2
  go_ret
  exact ⟨rfl, B9⟩
end Go.Proofs.YtdooadalkbghgaaDoor
end
