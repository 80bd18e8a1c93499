/- Packed from the texts JwN JwT. -/
import Derived.Test.YtbfalppeifkjdaaGreatDoorXJwI
import Derived.Test.YtbfalppeifkjdaaGreatDoorXk3
import Derived.Test.YtbfalppeifkjdaaGreatDoorXkX
section
namespace Go.Proofs.YtbfalppeifkjdaaGreatDoor
open Go.RowKit
theorem text_ne (n : ValD) : n.text ≠ [] := by
  rw [vtext_eq]
  intro h
  split at h
  · cases h
  split at h
  · unfold boolT at h
    split at h <;> cases h
  split at h
  · obtain ⟨c, r, hc, _⟩ := itoa_head n.n
    rw [hc] at h
    cases h
  split at h
  · unfold quoteJ at h
    cases h
  split at h <;> cases h
set_option maxRecDepth 100000 in
set_option maxHeartbeats 16000000 in
theorem jw_Write (n : ValD) (v : Value) (w : World) (hc : n.bulk ≤ 1000000) (hr : n.R64) (hT : TabW w) (hn : ValIs w n v) : Calls Tryz.prog 101 #[v] w fun e w' => e = .returned (.tuple #[.string (wrZ n), .int .i64 (chkZ n)]) ∧ Below w.heap.size w w' := by
  obtain ⟨W0, hW0⟩ : ∃ W0, W0 = w.alloc (.cells v.cells 119) := ⟨_, rfl⟩
  have hb0 : Below w.heap.size w W0 := by rw [hW0]; exact (Below.refl _ _).alloc (Nat.le_refl _) _
  have hn0 := hn.below hb0
  have hT0 := TabW_below hT hb0
  have c1 := jw_Check n v W0 hc hT0.1 hn0
  have hlen := text_bulk n hr
  have HP := Lib.hid (wrP n)
  have HV := Lib.hid (fun (h : n.okB = true) (wb : World) (hb : Below W0.heap.size W0 wb) => show Calls Tryz.prog 124 #[.pointer (some ⟨wb.heap.size, 0, none⟩), v] (wb.alloc (.cells #[.pointer none, .slice none 0 0] 161)) (WrO wb.heap.size (.slice none 0 0) [] n.text (wb.alloc (.cells #[.pointer none, .slice none 0 0] 161))) from wv_all n.bulk n v (Nat.le_refl _) ⟨hc, h, hr⟩ wb _ _ _ [] (hn0.below hb) ((Below.refl _ _).alloc (Nat.le_refl _) _) (Nat.le_refl _) (TabW_below hT0 hb) (Wst.new wb) (by simp only [List.length_nil]; omega))
  have HNE := Lib.hid (text_ne n)
  obtain ⟨p, c, q, d2, rfl, -, -⟩ := (val_is w n v).1 hn
  have B0 : Bj W0 w.heap.size #[.int .i64 n.kind, .bool n.b, .int .i64 n.n, .string n.s, .slice p n.items.length c, .slice q n.mems.length d2, .int .i64 n.at'] 119 := by rw [hW0]; exact Bj.new w _ _
  have HB0 := Lib.hid hb0
  have HBJ := Lib.hid B0
  obtain ⟨⟨f0, f1, f2, f3, f4, f5, f6⟩, -⟩ := B0.seven
  clear B0 hn hT hb0 hn0 hT0 hlen hr hc
  generalize chkZ n = Z at *
  generalize wrZ n = R at *
  generalize n.okB = OK at *
  generalize n.text = TX at *
  go_enter Tryz.func101, Tryz.ntmps101
  go_upto_region 1 with fail
  simp only [Value.cells] at hW0
  simp only [← hW0]
  clear hW0
  rcases HP.out with ⟨rfl, rfl, rfl⟩ | ⟨rfl, rfl⟩
  · clear HP
    go_wp2_with fail
    refine c1.mono ?_
    rintro e w1 ⟨rfl, b1⟩
    have hHB1 := HB0.out.trans (b1.mono HB0.out.size)
    have hba : ∀ o : Obj, Below w1.heap.size w1 (w1.alloc o) := fun o => (Below.refl _ _).alloc (Nat.le_refl _) o
    obtain ⟨⟨g0, g1, g2, g3, g4, g5, g6⟩, -⟩ := ((HBJ.out.more b1).more (hba (.cells #[.pointer none, .slice none 0 0] 161))).seven
    have c2 := HV.out trivial w1 b1
    have HB1 := Lib.hid (hHB1.trans ((hba (.cells #[.pointer none, .slice none 0 0] 161)).mono hHB1.size))
    have HW1 := Lib.hid (Wst.new w1)
    have hle1 := hHB1.size
    have hz1 : (w1.alloc (.cells #[.pointer none, .slice none 0 0] 161)).heap.size = w1.heap.size + 1 := by simp
    obtain ⟨W2, hW2⟩ : ∃ W2, W2 = w1.alloc (.cells #[.pointer none, .slice none 0 0] 161) := ⟨_, rfl⟩
    rw [← hW2] at g0 g1 g2 g3 g4 g5 g6 c2 HB1 HW1 hz1
    clear b1 c1 f0 f1 f2 f3 f4 f5 f6 hba hHB1
    go_upto_region 5 with fail
    simp only [← hW2]
    clear hW2
    go_wp2_with fail
    refine c2.mono ?_
    rintro e w3 ⟨rfl, vd3, hW3, hC3⟩
    rw [List.nil_append] at hW3
    have hb3 : Below w.heap.size w w3 := hC3.below HB1.out hle1 (fun k hk => by cases hk) HB1.out.size
    have c3 := wj_String w.heap.size w1.heap.size hle1 TX vd3 w3 hW3 HNE.out
    have HB3 := Lib.hid hb3
    have hpw := hW3.lt
    clear c2 hW3 hC3 hb3 g0 g1 g2 g3 g4 g5 g6
    go_wp2_with fail
    refine c3.mono ?_
    rintro e w4 ⟨rfl, b4⟩
    have HB4 := Lib.hid (HB3.out.trans b4)
    clear b4 c3
    go_wp2
    exact bodyPost_ret (v := .tuple #[.string (ofBytes TX), .int .i64 0]) (by simp [results, Tryz.results101, go_sem]) rfl ⟨rfl, HB4.out⟩
  · clear HP HV
    go_wp2_with fail
    refine c1.mono ?_
    rintro e w1 ⟨rfl, b1⟩
    have HB1 := Lib.hid (HB0.out.trans (b1.mono HB0.out.size))
    go_wp2
    exact bodyPost_ret (v := .tuple #[.string ⟨#[]⟩, .int .i64 22]) (by simp [results, Tryz.results101, go_sem]) rfl ⟨rfl, HB1.out⟩
end Go.Proofs.YtbfalppeifkjdaaGreatDoor
end
section
namespace Go.Proofs.YtbfalppeifkjdaaGreatDoor
open Go.RowKit
theorem val_form {w : World} {n : ValD} {x : Value} (h : ValIs w n x) : ∃ p c q d, x = .agg #[.int .i64 n.kind, .bool n.b, .int .i64 n.n, .string n.s, .slice p n.items.length c, .slice q n.mems.length d, .int .i64 n.at'] := by
  obtain ⟨p, c, q, d, h, -, -⟩ := (val_is w n x).1 h
  exact ⟨p, c, q, d, h⟩
end Go.Proofs.YtbfalppeifkjdaaGreatDoor
end
