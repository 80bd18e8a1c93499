/- Packed from the texts WrN WrO. -/
import Derived.Test.YtppmoeidgefkpaaDoorVkQ
section
namespace Go.Proofs.YtppmoeidgefkpaaDoor
open Go.RowKit
theorem kids_one {w : World} {n : NodeD} {c0 c1 c2 c3 c4 c5 c6 : Value} (h : NodeIs w n (.agg #[c0, c1, c2, c3, c4, c5, c6])) : KidsAt (w.alloc (.cells #[c0, c1, c2, c3, c4, c5, c6] 25)) (some ⟨w.heap.size, 0, none⟩) 0 [n] := by
  have hB := Blk.new w #[c0, c1, c2, c3, c4, c5, c6] 25
  rw [KidsAt]
  refine ⟨⟨⟨w.heap.size, 0, none⟩, c0, c1, c2, c3, c4, c5, c6, rfl, ?_, h.below ((Below.refl _ _).alloc (Nat.le_refl _) _)⟩, by rw [KidsAt]; trivial⟩
  exact ⟨hB.cell 0, hB.cell 1, hB.cell 2, hB.cell 3, hB.cell 4, hB.cell 5, hB.cell 6⟩
theorem strs_two (w : World) (a b : ByteArray) : StrsAt (w.alloc (.cells #[.string a, .string b] 9)) (some ⟨w.heap.size, 0, none⟩) [a, b] := by
  have hB := Blk.new w #[.string a, .string b] 9
  intro i hi
  refine ⟨_, rfl, ?_⟩
  match i, hi with
  | 0, _ => exact hB.cell 0
  | 1, _ => exact hB.cell 1
def ex9T : NodeD := textP ⟨#[120]⟩
def ex9E : NodeD := elemP ⟨#[97]⟩ [ex9T]
def ex9M : NodeD := withP ex9E [⟨#[98]⟩, ⟨#[60]⟩]
def ex9B : NodeD := elemP ⟨#[49, 97]⟩ []
theorem ex9_1 : writeP ex9M = ⟨#[60, 63, 120, 109, 108, 32, 118, 101, 114, 115, 105, 111, 110, 61, 34, 49, 46, 48, 34, 32, 101, 110, 99, 111, 100, 105, 110, 103, 61, 34, 85, 84, 70, 45, 56, 34, 63, 62, 10, 60, 97, 32, 98, 61, 34, 38, 108, 116, 59, 34, 62, 120, 60, 47, 97, 62, 10]⟩ := by kernel_rfl
theorem ex9_2 : errP ex9M = 0 := by kernel_rfl
theorem ex9_3 : errP ex9B = 22 := by kernel_rfl
theorem ex9_4 : ex9T.mass ≤ 100 ∧ ex9E.mass ≤ 100 ∧ ex9M.mass ≤ 100 ∧ ex9B.mass ≤ 100 := by decide +kernel
theorem ex9_5 : ex9T.cnt ≤ 100 ∧ ex9T.acnt ≤ 100 ∧ ex9E.cnt ≤ 100 ∧ ex9E.acnt ≤ 100 := by decide +kernel
set_option maxRecDepth 100000 in
set_option maxHeartbeats 16000000 in
theorem wr_alive (w : World) (hT : HasTabs w) : Calls Tryd.prog 8 #[] w fun e w' => e = .returned (.bool true) ∧ Below w.heap.size w w' := by
  have c1 := xw_Text ⟨#[120]⟩ w
  have c2 : ∀ w1 c0 d1 d2 d3 d4 d5 d6, NodeIs w1 ex9T (.agg #[c0, d1, d2, d3, d4, d5, d6]) → _ := fun w1 c0 d1 d2 d3 d4 d5 d6 h => xw_Elem ⟨#[97]⟩ [ex9T] _ 1 _ (kids_one (w := w1) (n := ex9T) (c0 := c0) (c1 := d1) (c2 := d2) (c3 := d3) (c4 := d4) (c5 := d5) (c6 := d6) h) (by decide) (fun k hk => by
    have := ex9_5
    rw [List.mem_singleton.1 hk]
    omega)
  have c3 : ∀ w2 v2, NodeIs w2 ex9E v2 → _ := fun w2 v2 h => xw_With ex9E v2 [⟨#[98]⟩, ⟨#[60]⟩] _ 2 _ (h.below ((Below.refl _ _).alloc (Nat.le_refl _) _)) (strs_two w2 ⟨#[98]⟩ ⟨#[60]⟩) (by have := ex9_5; omega) (by decide)
  have c4 : ∀ w3 v3, HasTabs w3 → NodeIs w3 ex9M v3 → _ := fun w3 v3 ht h => xw_Write ex9M v3 w3 (by have := ex9_4; omega) ht h
  have c5 : ∀ w4, _ := fun w4 => xw_Elem ⟨#[49, 97]⟩ [] none 0 w4 (by rw [KidsAt]; trivial) (by decide) (fun k hk => by cases hk)
  have c6 : ∀ w5 v5, HasTabs w5 → NodeIs w5 ex9B v5 → _ := fun w5 v5 ht h => xw_Write ex9B v5 w5 (by have := ex9_4; omega) ht h
  have c7 : ∀ w3 v3, HasTabs w3 → NodeIs w3 ex9M v3 → _ := fun w3 v3 ht h => xw_Check ex9M v3 w3 (by have := ex9_4; omega) ht h
  rw [ex9_1, ex9_2] at c4
  rw [ex9_3] at c6
  rw [ex9_2] at c7
  have hM : withP ex9E [⟨#[98]⟩, ⟨#[60]⟩] = ex9M := rfl
  have hE : elemP ⟨#[97]⟩ [ex9T] = ex9E := rfl
  have hB : elemP ⟨#[49, 97]⟩ [] = ex9B := rfl
  have hT0 : textP ⟨#[120]⟩ = ex9T := rfl
  rw [hM] at c3
  rw [hE] at c2
  rw [hB] at c5
  rw [hT0] at c1
  clear hM hE hB hT0
  generalize (ex9E.al ++ pairsP [⟨#[98]⟩, ⟨#[60]⟩]).length = L at *
  generalize writeP ex9B = SB at *
  generalize ex9T = nT at *
  generalize ex9E = nE at *
  generalize ex9M = nM at *
  generalize ex9B = nB at *
  rw [show [nT].length = 1 from rfl] at c2
  rw [show ([⟨#[98]⟩, ⟨#[60]⟩] : List ByteArray).length = 2 from rfl] at c3
  rw [show ([] : List NodeD).length = 0 from rfl] at c5
  go_enter Tryd.func8, Tryd.ntmps8
  go_wp2_with fail
  refine c1.mono ?_
  rintro e w1 ⟨v1, rfl, hn1, b1⟩
  obtain ⟨pa1, ca1, pk1, ck1, rfl⟩ := node_form hn1
  have c2' := c2 _ _ _ _ _ _ _ _ hn1
  go_wp2_with fail
  refine c2'.mono ?_
  rintro e w2 ⟨v2, rfl, hn2, b2⟩
  have B2 := b1.trans (((Below.refl w1.heap.size w1).alloc (Nat.le_refl _) _).trans (b2.mono (by simp)) |>.mono b1.size)
  have c3' := c3 _ _ hn2
  obtain ⟨pa2, ca2, pk2, ck2, rfl⟩ := node_form hn2
  clear c1 c2 c2' hn1 b1 b2
  go_wp2_with fail
  refine c3'.mono ?_
  rintro e w3 ⟨pa3, ca3, pk3, ck3, rfl, hn3, -, b3⟩
  have B3 := B2.trans (((Below.refl w2.heap.size w2).alloc (Nat.le_refl _) _).trans (b3.mono (by simp)) |>.mono B2.size)
  have bA : ∀ o : Obj, Below w3.heap.size w3 (w3.alloc o) := fun o => (Below.refl _ _).alloc (Nat.le_refl _) _
  have tA : ∀ o : Obj, HasTabs (w3.alloc o) := fun o => HasTabs_below hT (B3.trans ((bA o).mono B3.size))
  have nA : ∀ o : Obj, NodeIs (w3.alloc o) nM _ := fun o => hn3.below (bA o)
  have HX := Lib.hid (Blk.new w3 #[.int .i64 nE.kind, .string nE.sp, .string nE.nm, .slice pa3 L ca3, .slice pk3 nE.kids.length ck3, .string nE.tx, .int .i64 nE.at'] 25)
  have HB3 := Lib.hid B3
  clear c3 c3' hn2 b3 B2 B3
  go_wp2_with fail
  refine (c4 _ _ (tA _) (nA _)).mono ?_
  rintro e w4 ⟨rfl, b4⟩
  have B4 := HB3.out.trans (((bA _).trans (b4.mono (by simp))).mono HB3.out.size)
  have HX4 := Lib.hid (HX.out.more b4)
  have N4 := Lib.hid ((nA _).below b4)
  have t4 := HasTabs_below hT B4
  clear b4 c4 nA tA bA HX HB3
  go_wp2_with fail
  refine (c5 _).mono ?_
  rintro e w5 ⟨v5, rfl, hn5, b5⟩
  have B5 := B4.trans (b5.mono B4.size)
  have t5 := HasTabs_below hT B5
  have HX5 := Lib.hid (HX4.out.more b5)
  have N5 := Lib.hid (N4.out.below b5)
  have c6' := c6 _ _ t5 hn5
  obtain ⟨pa5, ca5, pk5, ck5, rfl⟩ := node_form hn5
  clear b5 c5 c6 HX4 N4 t4
  go_wp2_with fail
  refine c6'.mono ?_
  rintro e w6 ⟨rfl, b6⟩
  have B6 := B5.trans (b6.mono B5.size)
  have t6 := HasTabs_below hT B6
  have X6 := HX5.out.more b6
  have N6 := N5.out.below b6
  have f0 : w6.cell? ⟨w3.heap.size, 0, none⟩ = some (.int .i64 nE.kind) := X6.cell 0
  have f1 : w6.cell? ⟨w3.heap.size, 1, none⟩ = some (.string nE.sp) := X6.cell 1
  have f2 : w6.cell? ⟨w3.heap.size, 2, none⟩ = some (.string nE.nm) := X6.cell 2
  have f3 : w6.cell? ⟨w3.heap.size, 3, none⟩ = some (.slice pa3 L ca3) := X6.cell 3
  have f4 : w6.cell? ⟨w3.heap.size, 4, none⟩ = some (.slice pk3 nE.kids.length ck3) := X6.cell 4
  have f5 : w6.cell? ⟨w3.heap.size, 5, none⟩ = some (.string nE.tx) := X6.cell 5
  have f6 : w6.cell? ⟨w3.heap.size, 6, none⟩ = some (.int .i64 nE.at') := X6.cell 6
  have c7' := c7 _ _ t6 N6
  clear b6 c6' hn5 HX5 N5 t5 X6 N6 c7
  go_wp2_with fail
  refine c7'.mono ?_
  rintro e w7 ⟨rfl, b7⟩
  have B7 := B6.trans (b7.mono B6.size)
  go_wp2
  go_ret
  exact ⟨rfl, B7⟩
end Go.Proofs.YtppmoeidgefkpaaDoor
end
section
namespace Go.Proofs.YtppmoeidgefkpaaDoor
open Go.RowKit
theorem one_no {c : Prop} [Decidable c] (h : ¬ c) : oneIf (decide c) = 0 := by rw [decide_eq_false h]; rfl
theorem one_yes {c : Prop} [Decidable c] (h : c) : oneIf (decide c) = 1 := by rw [decide_eq_true h]; rfl
end Go.Proofs.YtppmoeidgefkpaaDoor
end
