/- Packed from the texts JpW. -/
import Derived.Test.YtkkiklaoljdhhaaGreatDoorYJpT
import Derived.Test.YtkkiklaoljdhhaaGreatDoorYkP
import Derived.Test.YtkkiklaoljdhhaaGreatDoorYkQ
import Derived.Test.YtkkiklaoljdhhaaGreatDoorYkR
import Derived.KernelRfl
section
namespace Go.Proofs.YtkkiklaoljdhhaaGreatDoor
open Go.RowKit
def exArr : ValD := .mk 4 false 0 ⟨#[]⟩ [.mk 2 false 1 ⟨#[]⟩ [] [] 7, .mk 2 false (-20) ⟨#[]⟩ [] [] 10] [] 6
def exObj : ValD := .mk 5 false 0 ⟨#[]⟩ [] [.mk ⟨#[97]⟩ exArr 1] 0
theorem ex_one : parR [123, 34, 97, 34, 58, 32, 91, 49, 44, 32, 45, 50, 48, 93, 125] = (exObj, 15, 0) := by kernel_rfl
theorem ex_two : parR [91, 48, 49, 93] = (zeroVal, 1, 15) := by kernel_rfl
theorem ex_three : parR [123, 34, 97, 34, 58, 49, 44, 34, 97, 34, 58, 50, 125] = (zeroVal, 7, 10) := by kernel_rfl
theorem ex_four : parR [91, 49, 44, 93] = (zeroVal, 3, 7) := by kernel_rfl
theorem ex_get : getV exObj ⟨#[97]⟩ = some exArr := by kernel_rfl
theorem ex_depth : exObj.depth = 3 := by kernel_rfl
theorem ex_equal : exObj.eqB false (stripV exObj) = true := by kernel_rfl
theorem ex_obj {w : World} {x : Value} (h : ValIs w exObj x) : ∃ (p : Option Addr) (c : Nat) (a : Addr) (d : Nat), x = .agg #[.int .i64 5, .bool false, .int .i64 0, .string ⟨#[]⟩, .slice p 0 c, .slice (some a) 1 d, .int .i64 0] ∧ w.cell? { block := a.block, off := a.off + 8 } = some (.int .i64 1) := by
  obtain ⟨p, c, q, d, rfl, -, hM⟩ := (val_is w exObj x).1 h
  have hM : MemsAt w q 0 [.mk ⟨#[97]⟩ exArr 1] := hM
  rw [MemsAt, mem_at] at hM
  obtain ⟨⟨a, v0, v1, v2, v3, v4, v5, v6, rfl, ⟨-, -, -, -, -, -, -, -, h8⟩, -⟩, -⟩ := hM
  refine ⟨p, c, a, d, rfl, ?_⟩
  simpa [Addr.add, MemD.at'] using h8
theorem ex_arr {w : World} {x : Value} (h : ValIs w exArr x) : ∃ (a : Addr) (c : Nat) (q : Option Addr) (d : Nat), x = .agg #[.int .i64 4, .bool false, .int .i64 0, .string ⟨#[]⟩, .slice (some a) 2 c, .slice q 0 d, .int .i64 6] ∧ w.cell? { block := a.block, off := a.off + 9 } = some (.int .i64 (-20)) := by
  obtain ⟨p, c, q, d, rfl, hI, -⟩ := (val_is w exArr x).1 h
  have hI : ItemsAt w p 0 [.mk 2 false 1 ⟨#[]⟩ [] [] 7, .mk 2 false (-20) ⟨#[]⟩ [] [] 10] := hI
  obtain ⟨a, p2, c2, q2, d2, rfl, ⟨-, -, h2, -⟩, -⟩ := hI.cells 1 (by decide)
  refine ⟨a, c, q, d, rfl, ?_⟩
  simpa [Addr.add, ValD.n] using h2
theorem ex_zero {w : World} {x : Value} (h : ValIs w zeroVal x) : ∃ (p : Option Addr) (c : Nat) (q : Option Addr) (d : Nat), x = .agg #[.int .i64 0, .bool false, .int .i64 0, .string ⟨#[]⟩, .slice p 0 c, .slice q 0 d, .int .i64 0] := by
  obtain ⟨p, c, q, d, rfl, -, -⟩ := (val_is w zeroVal x).1 h
  exact ⟨p, c, q, d, rfl⟩
set_option maxRecDepth 100000 in
set_option maxHeartbeats 64000000 in
theorem jv_alive (w : World) (hT : TabV w) : Calls Tryz.prog 6 #[] w fun e w' => e = .returned (.bool true) ∧ Below w.heap.size w w' := by
  have c1 := fun wx hx => jp_Parse ⟨#[123, 34, 97, 34, 58, 32, 91, 49, 44, 32, 45, 50, 48, 93, 125]⟩ wx (by decide) hx
  have c2 := fun wx hx => jp_Parse ⟨#[91, 48, 49, 93]⟩ wx (by decide) hx
  have c3 := fun wx hx => jp_Parse ⟨#[123, 34, 97, 34, 58, 49, 44, 34, 97, 34, 58, 50, 125]⟩ wx (by decide) hx
  have c4 := fun wx hx => jp_Parse ⟨#[91, 49, 44, 93]⟩ wx (by decide) hx
  rw [show (⟨#[123, 34, 97, 34, 58, 32, 91, 49, 44, 32, 45, 50, 48, 93, 125]⟩ : ByteArray).data.toList = [123, 34, 97, 34, 58, 32, 91, 49, 44, 32, 45, 50, 48, 93, 125] from rfl, ex_one] at c1
  rw [show (⟨#[91, 48, 49, 93]⟩ : ByteArray).data.toList = [91, 48, 49, 93] from rfl, ex_two] at c2
  rw [show (⟨#[123, 34, 97, 34, 58, 49, 44, 34, 97, 34, 58, 50, 125]⟩ : ByteArray).data.toList = [123, 34, 97, 34, 58, 49, 44, 34, 97, 34, 58, 50, 125] from rfl, ex_three] at c3
  rw [show (⟨#[91, 49, 44, 93]⟩ : ByteArray).data.toList = [91, 49, 44, 93] from rfl, ex_four] at c4
  simp only at c1 c2 c3 c4
  go_enter Tryz.func6, Tryz.ntmps6
  go_wp2_with fail
  refine (c1 _ hT).mono ?_
  rintro e w1 ⟨⟨x1, rfl, hx1⟩, b1⟩
  obtain ⟨p1, k1, a1, d1, rfl, h8⟩ := ex_obj hx1
  have b1' := b1.alloc b1.size (.cells #[.int .i64 5, .bool false, .int .i64 0, .string ⟨#[]⟩, .slice p1 0 k1, .slice (some a1) 1 d1, .int .i64 0] 26)
  have T1 := TabV_below hT b1'
  have V1 := Bj.new w1 #[.int .i64 5, .bool false, .int .i64 0, .string ⟨#[]⟩, .slice p1 0 k1, .slice (some a1) 1 d1, .int .i64 0] 26
  have hx1' := hx1.below ((Below.refl w1.heap.size w1).alloc (Nat.le_refl _) (.cells #[.int .i64 5, .bool false, .int .i64 0, .string ⟨#[]⟩, .slice p1 0 k1, .slice (some a1) 1 d1, .int .i64 0] 26))
  have HT1 := Lib.hid T1
  have Hb1 := Lib.hid b1'
  have HV1 := Lib.hid V1
  have HX1 := Lib.hid hx1'
  have hz1 : (w1.alloc (.cells #[.int .i64 5, .bool false, .int .i64 0, .string ⟨#[]⟩, .slice p1 0 k1, .slice (some a1) 1 d1, .int .i64 0] 26)).heap.size = w1.heap.size + 1 := by simp
  clear b1 b1' T1 V1 hx1 hx1' h8 hT
  go_wp2_with fail
  refine (c2 _ HT1.out).mono ?_
  rintro e w2 ⟨⟨x2, rfl, hx2⟩, b2⟩
  obtain ⟨p2, k2, q2, d2, rfl⟩ := ex_zero hx2
  have bb2 : Below (w1.alloc (.cells #[.int .i64 5, .bool false, .int .i64 0, .string ⟨#[]⟩, .slice p1 0 k1, .slice (some a1) 1 d1, .int .i64 0] 26)).heap.size (w1.alloc (.cells #[.int .i64 5, .bool false, .int .i64 0, .string ⟨#[]⟩, .slice p1 0 k1, .slice (some a1) 1 d1, .int .i64 0] 26)) (w2.alloc (.cells #[.int .i64 0, .bool false, .int .i64 0, .string ⟨#[]⟩, .slice p2 0 k2, .slice q2 0 d2, .int .i64 0] 26)) := b2.alloc b2.size _
  have T2 := Lib.hid (TabV_below HT1.out bb2)
  have V2 := Lib.hid (HV1.out.more bb2)
  have X2 := Lib.hid (HX1.out.below bb2)
  have B2 := Lib.hid (Hb1.out.trans (bb2.mono Hb1.out.size))
  clear b2 bb2 hx2 HT1 HV1 HX1 Hb1
  go_wp2_with fail
  refine (c3 _ T2.out).mono ?_
  rintro e w3 ⟨⟨x3, rfl, hx3⟩, b3⟩
  obtain ⟨p3, k3, q3, d3, rfl⟩ := ex_zero hx3
  have bb3 : Below (w2.alloc (.cells #[.int .i64 0, .bool false, .int .i64 0, .string ⟨#[]⟩, .slice p2 0 k2, .slice q2 0 d2, .int .i64 0] 26)).heap.size (w2.alloc (.cells #[.int .i64 0, .bool false, .int .i64 0, .string ⟨#[]⟩, .slice p2 0 k2, .slice q2 0 d2, .int .i64 0] 26)) (w3.alloc (.cells #[.int .i64 0, .bool false, .int .i64 0, .string ⟨#[]⟩, .slice p3 0 k3, .slice q3 0 d3, .int .i64 0] 26)) := b3.alloc b3.size _
  have T3 := Lib.hid (TabV_below T2.out bb3)
  have V3 := Lib.hid (V2.out.more bb3)
  have X3 := Lib.hid (X2.out.below bb3)
  have B3 := Lib.hid (B2.out.trans (bb3.mono B2.out.size))
  clear b3 bb3 hx3 T2 V2 X2 B2
  go_wp2_with fail
  refine (c4 _ T3.out).mono ?_
  rintro e w4 ⟨⟨x4, rfl, hx4⟩, b4⟩
  obtain ⟨p4, k4, q4, d4, rfl⟩ := ex_zero hx4
  have bb4 : Below (w3.alloc (.cells #[.int .i64 0, .bool false, .int .i64 0, .string ⟨#[]⟩, .slice p3 0 k3, .slice q3 0 d3, .int .i64 0] 26)).heap.size (w3.alloc (.cells #[.int .i64 0, .bool false, .int .i64 0, .string ⟨#[]⟩, .slice p3 0 k3, .slice q3 0 d3, .int .i64 0] 26)) (w4.alloc (.cells #[.int .i64 0, .bool false, .int .i64 0, .string ⟨#[]⟩, .slice p4 0 k4, .slice q4 0 d4, .int .i64 0] 26)) := b4.alloc b4.size _
  have T4 := Lib.hid (TabV_below T3.out bb4)
  have V4 := Lib.hid (V3.out.more bb4)
  have X4 := Lib.hid (X3.out.below bb4)
  have B4 := Lib.hid (B3.out.trans (bb4.mono B3.out.size))
  clear b4 bb4 hx4 T3 V3 X3 B3
  have cG := jp_Get exObj _ ⟨#[97]⟩ (w4.alloc (.cells #[.int .i64 0, .bool false, .int .i64 0, .string ⟨#[]⟩, .slice p4 0 k4, .slice q4 0 d4, .int .i64 0] 26)) (by decide) X4.out
  rw [ex_get] at cG
  obtain ⟨⟨r0, r1, r2, r3, r4, r5, r6⟩, -⟩ := V4.out.seven
  go_wp2_with fail
  refine cG.mono ?_
  rintro e w5 ⟨⟨x5, rfl, hx5⟩, b5⟩
  have hx5 : ValIs w5 exArr x5 := hx5
  obtain ⟨a5, k5, q5, d5, rfl, h9⟩ := ex_arr hx5
  obtain ⟨W6, hW6⟩ : ∃ W6, W6 = (w5.alloc (.cells #[.int .i64 4, .bool false, .int .i64 0, .string ⟨#[]⟩, .slice (some a5) 2 k5, .slice q5 0 d5, .int .i64 6] 26)) := ⟨_, rfl⟩
  have bb5 : Below (w4.alloc (.cells #[.int .i64 0, .bool false, .int .i64 0, .string ⟨#[]⟩, .slice p4 0 k4, .slice q4 0 d4, .int .i64 0] 26)).heap.size (w4.alloc (.cells #[.int .i64 0, .bool false, .int .i64 0, .string ⟨#[]⟩, .slice p4 0 k4, .slice q4 0 d4, .int .i64 0] 26)) W6 := by rw [hW6]; exact b5.alloc b5.size _
  have b56 : Below w5.heap.size w5 W6 := by rw [hW6]; exact (Below.refl _ _).alloc (Nat.le_refl _) _
  have V6 := V4.out.more bb5
  have X6 := X4.out.below bb5
  have B6 := Lib.hid (B4.out.trans (bb5.mono B4.out.size))
  have N6 : Bj W6 w5.heap.size #[.int .i64 4, .bool false, .int .i64 0, .string ⟨#[]⟩, .slice (some a5) 2 k5, .slice q5 0 d5, .int .i64 6] 26 := by rw [hW6]; exact Bj.new _ _ _
  obtain ⟨p1', k1', a1', d1', he, h8⟩ := ex_obj X6
  simp only [Value.agg.injEq, Array.mk.injEq, List.cons.injEq, Value.slice.injEq, and_true, true_and, Option.some.injEq] at he
  obtain ⟨⟨rfl, rfl⟩, rfl, rfl⟩ := he
  have h9' : W6.cell? { block := a5.block, off := a5.off + 9 } = some (.int .i64 (-20)) := (b56.cell (vblock_lt h9)).trans h9
  have c5 := jp_Depth 100 exObj _ W6.drew (by decide) (by decide) X6
  rw [ex_depth] at c5
  have cS := fun wx (hx : ValIs wx exObj (.agg #[.int .i64 5, .bool false, .int .i64 0, .string ⟨#[]⟩, .slice p1 0 k1, .slice (some a1) 1 d1, .int .i64 0])) => jp_Strip 100 exObj (by decide) (by decide) _ wx hx
  have cE := fun u wx (hx : ValIs wx exObj (.agg #[.int .i64 5, .bool false, .int .i64 0, .string ⟨#[]⟩, .slice p1 0 k1, .slice (some a1) 1 d1, .int .i64 0])) (hu : ValIs wx (stripV exObj) u) => jp_Equal 100 exObj (stripV exObj) _ u wx (by decide) (by decide) hx hu
  rw [ex_equal] at cE
  have HX6 := Lib.hid X6
  have HV6 := Lib.hid V6
  have HN6 := Lib.hid N6
  obtain ⟨⟨s0, s1, s2, s3, s4, s5, s6⟩, -⟩ := V6.seven
  obtain ⟨⟨t0, t1, t2, t3, t4, t5, t6⟩, -⟩ := N6.seven
  clear X4 V4 T4 B4 b5 bb5 hx5 h9 b56 X6 V6 N6 c1 c2 c3 c4 cG r0 r1 r2 r3 r4 r5 r6
  have hS0 : W6.drew.cell? ⟨w1.heap.size, 0, none⟩ = some (.int .i64 5) ∧ W6.drew.cell? ⟨w1.heap.size, 1, none⟩ = some (.bool false) ∧ W6.drew.cell? ⟨w1.heap.size, 2, none⟩ = some (.int .i64 0) ∧ W6.drew.cell? ⟨w1.heap.size, 3, none⟩ = some (.string ⟨#[]⟩) ∧ W6.drew.cell? ⟨w1.heap.size, 4, none⟩ = some (.slice p1 0 k1) ∧ W6.drew.cell? ⟨w1.heap.size, 5, none⟩ = some (.slice (some a1) 1 d1) ∧ W6.drew.cell? ⟨w1.heap.size, 6, none⟩ = some (.int .i64 0) ∧ W6.drew.cell? ⟨w5.heap.size, 4, none⟩ = some (.slice (some a5) 2 k5) ∧ W6.drew.cell? ⟨w5.heap.size, 6, none⟩ = some (.int .i64 6) ∧ W6.drew.cell? { block := a1.block, off := a1.off + 8 } = some (.int .i64 1) ∧ W6.drew.cell? { block := a5.block, off := a5.off + 9 } = some (.int .i64 (-20)) := ⟨s0, s1, s2, s3, s4, s5, s6, t4, t6, h8, h9'⟩
  have hSb : ∀ wx, Below W6.heap.size W6.drew wx → (wx.cell? ⟨w1.heap.size, 0, none⟩ = some (.int .i64 5) ∧ wx.cell? ⟨w1.heap.size, 1, none⟩ = some (.bool false) ∧ wx.cell? ⟨w1.heap.size, 2, none⟩ = some (.int .i64 0) ∧ wx.cell? ⟨w1.heap.size, 3, none⟩ = some (.string ⟨#[]⟩) ∧ wx.cell? ⟨w1.heap.size, 4, none⟩ = some (.slice p1 0 k1) ∧ wx.cell? ⟨w1.heap.size, 5, none⟩ = some (.slice (some a1) 1 d1) ∧ wx.cell? ⟨w1.heap.size, 6, none⟩ = some (.int .i64 0) ∧ wx.cell? ⟨w5.heap.size, 4, none⟩ = some (.slice (some a5) 2 k5) ∧ wx.cell? ⟨w5.heap.size, 6, none⟩ = some (.int .i64 6) ∧ wx.cell? { block := a1.block, off := a1.off + 8 } = some (.int .i64 1) ∧ wx.cell? { block := a5.block, off := a5.off + 9 } = some (.int .i64 (-20))) := fun wx hb => ⟨(hb.cell (vblock_lt (w := W6.drew) hS0.1)).trans hS0.1, (hb.cell (vblock_lt (w := W6.drew) hS0.2.1)).trans hS0.2.1, (hb.cell (vblock_lt (w := W6.drew) hS0.2.2.1)).trans hS0.2.2.1, (hb.cell (vblock_lt (w := W6.drew) hS0.2.2.2.1)).trans hS0.2.2.2.1, (hb.cell (vblock_lt (w := W6.drew) hS0.2.2.2.2.1)).trans hS0.2.2.2.2.1, (hb.cell (vblock_lt (w := W6.drew) hS0.2.2.2.2.2.1)).trans hS0.2.2.2.2.2.1, (hb.cell (vblock_lt (w := W6.drew) hS0.2.2.2.2.2.2.1)).trans hS0.2.2.2.2.2.2.1, (hb.cell (vblock_lt (w := W6.drew) hS0.2.2.2.2.2.2.2.1)).trans hS0.2.2.2.2.2.2.2.1, (hb.cell (vblock_lt (w := W6.drew) hS0.2.2.2.2.2.2.2.2.1)).trans hS0.2.2.2.2.2.2.2.2.1, (hb.cell (vblock_lt (w := W6.drew) hS0.2.2.2.2.2.2.2.2.2.1)).trans hS0.2.2.2.2.2.2.2.2.2.1, (hb.cell (vblock_lt (w := W6.drew) hS0.2.2.2.2.2.2.2.2.2.2)).trans hS0.2.2.2.2.2.2.2.2.2.2⟩
  go_upto_region 6 with fail
  simp only [← hW6]
  clear hW6
  go_wp2
  clear s0 s1 s2 s3 s4 s5 s6 t0 t1 t2 t3 t4 t5 t6 h8 h9' HV6 HN6
  go_region_held3 (fun w' => w'.cell? ⟨w1.heap.size, 0, none⟩ = some (.int .i64 5) ∧ w'.cell? ⟨w1.heap.size, 1, none⟩ = some (.bool false) ∧ w'.cell? ⟨w1.heap.size, 2, none⟩ = some (.int .i64 0) ∧ w'.cell? ⟨w1.heap.size, 3, none⟩ = some (.string ⟨#[]⟩) ∧ w'.cell? ⟨w1.heap.size, 4, none⟩ = some (.slice p1 0 k1) ∧ w'.cell? ⟨w1.heap.size, 5, none⟩ = some (.slice (some a1) 1 d1) ∧ w'.cell? ⟨w1.heap.size, 6, none⟩ = some (.int .i64 0) ∧ w'.cell? ⟨w5.heap.size, 4, none⟩ = some (.slice (some a5) 2 k5) ∧ w'.cell? ⟨w5.heap.size, 6, none⟩ = some (.int .i64 6) ∧ w'.cell? { block := a1.block, off := a1.off + 8 } = some (.int .i64 1) ∧ w'.cell? { block := a5.block, off := a5.off + 9 } = some (.int .i64 (-20))) (first | with_reducible exact hS0 | with_reducible exact hS7 | with_reducible exact hS8 | with_reducible exact hS9) (first | (go_at_call 18; refine (cE _ w8 ((show ValIs W6.drew exObj _ from HX6.out).below b68) hx8).mono ?_; rintro e w9 ⟨rfl, b9⟩; have b69 := b68.trans (b9.mono b68.size); have hS9 := hSb w9 b69) | (go_at_call 19; refine (cS w7 ((show ValIs W6.drew exObj _ from HX6.out).below b67)).mono ?_; rintro e w8 ⟨⟨x8, rfl, hx8'⟩, b8⟩; have b68 := b67.trans (b8.mono b67.size); have hS8 := hSb w8 b68; have hx8 := hx8'.full) | (go_at_call 17; refine c5.mono ?_; rintro e w7 ⟨rfl, b67⟩; have hS7 := hSb w7 b67))
  go_wp2
  go_ret
  exact ⟨rfl, B6.out.trans ((((Below.refl W6.heap.size W6).drew).trans b69).mono B6.out.size)⟩
end Go.Proofs.YtkkiklaoljdhhaaGreatDoor
end
