/- Packed from the texts JwW. -/
import Derived.Test.YtdooadalkbghgaaDoorVk5
section
namespace Go.Proofs.YtdooadalkbghgaaDoor
open Go.RowKit
theorem items_one {w : World} {m : ValD} {c0 c1 c2 c3 c4 c5 c6 : Value} (h : ValIs w m (.agg #[c0, c1, c2, c3, c4, c5, c6])) : ItemsAt (w.alloc (.cells #[c0, c1, c2, c3, c4, c5, c6] 25)) (some ⟨w.heap.size, 0, none⟩) 0 [m] := by
  have hB := Bj.new w #[c0, c1, c2, c3, c4, c5, c6] 25
  have hb : Below w.heap.size w (w.alloc (.cells #[c0, c1, c2, c3, c4, c5, c6] 25)) := (Below.refl _ _).alloc (Nat.le_refl _) _
  rw [ItemsAt, ItemsAt_nil]
  exact ⟨⟨⟨w.heap.size, 0, none⟩, c0, c1, c2, c3, c4, c5, c6, rfl, ⟨hB.cell 0, hB.cell 1, hB.cell 2, hB.cell 3, hB.cell 4, hB.cell 5, hB.cell 6⟩, h.below hb⟩, trivial⟩
theorem mems_one {w : World} {m : ValD} {a : ByteArray} {c0 c1 c2 c3 c4 c5 c6 : Value} (h : ValIs w m (.agg #[c0, c1, c2, c3, c4, c5, c6])) : MemsAt (w.alloc (.cells #[.string a, c0, c1, c2, c3, c4, c5, c6, .int .i64 0] 36)) (some ⟨w.heap.size, 0, none⟩) 0 [.mk a m 0] := by
  have hB := Bj.new w #[.string a, c0, c1, c2, c3, c4, c5, c6, .int .i64 0] 36
  have hb : Below w.heap.size w (w.alloc (.cells #[.string a, c0, c1, c2, c3, c4, c5, c6, .int .i64 0] 36)) := (Below.refl _ _).alloc (Nat.le_refl _) _
  rw [MemsAt, MemsAt_nil, MemAt]
  exact ⟨⟨⟨w.heap.size, 0, none⟩, c0, c1, c2, c3, c4, c5, c6, rfl, ⟨hB.cell 0, hB.cell 1, hB.cell 2, hB.cell 3, hB.cell 4, hB.cell 5, hB.cell 6, hB.cell 7, hB.cell 8⟩, h.below hb⟩, trivial⟩
theorem bj_set7 {w : World} {b : Nat} {T : TypeId} {u0 u1 u2 u3 u4 u5 u6 : Value} (h : Bj w b #[u0, u1, u2, u3, u4, u5, u6] T) (v0 v1 v2 v3 v4 v5 v6 : Value) : Bj (((((((w.setCell ⟨b, 0, none⟩ v0).setCell ⟨b, 1, none⟩ v1).setCell ⟨b, 2, none⟩ v2).setCell ⟨b, 3, none⟩ v3).setCell ⟨b, 4, none⟩ v4).setCell ⟨b, 5, none⟩ v5).setCell ⟨b, 6, none⟩ v6) b #[v0, v1, v2, v3, v4, v5, v6] T := by
  have h1 : Bj (w.setCell ⟨b, 0, none⟩ v0) b #[v0, u1, u2, u3, u4, u5, u6] T := by
    have := Bj.set h 0 v0
    rwa [show (#[u0, u1, u2, u3, u4, u5, u6] : Array Value).setIfInBounds 0 v0 = #[v0, u1, u2, u3, u4, u5, u6] from rfl] at this
  have h2 : Bj ((w.setCell ⟨b, 0, none⟩ v0).setCell ⟨b, 1, none⟩ v1) b #[v0, v1, u2, u3, u4, u5, u6] T := by
    have := Bj.set h1 1 v1
    rwa [show (#[v0, u1, u2, u3, u4, u5, u6] : Array Value).setIfInBounds 1 v1 = #[v0, v1, u2, u3, u4, u5, u6] from rfl] at this
  have h3 : Bj (((w.setCell ⟨b, 0, none⟩ v0).setCell ⟨b, 1, none⟩ v1).setCell ⟨b, 2, none⟩ v2) b #[v0, v1, v2, u3, u4, u5, u6] T := by
    have := Bj.set h2 2 v2
    rwa [show (#[v0, v1, u2, u3, u4, u5, u6] : Array Value).setIfInBounds 2 v2 = #[v0, v1, v2, u3, u4, u5, u6] from rfl] at this
  have h4 : Bj ((((w.setCell ⟨b, 0, none⟩ v0).setCell ⟨b, 1, none⟩ v1).setCell ⟨b, 2, none⟩ v2).setCell ⟨b, 3, none⟩ v3) b #[v0, v1, v2, v3, u4, u5, u6] T := by
    have := Bj.set h3 3 v3
    rwa [show (#[v0, v1, v2, u3, u4, u5, u6] : Array Value).setIfInBounds 3 v3 = #[v0, v1, v2, v3, u4, u5, u6] from rfl] at this
  have h5 : Bj (((((w.setCell ⟨b, 0, none⟩ v0).setCell ⟨b, 1, none⟩ v1).setCell ⟨b, 2, none⟩ v2).setCell ⟨b, 3, none⟩ v3).setCell ⟨b, 4, none⟩ v4) b #[v0, v1, v2, v3, v4, u5, u6] T := by
    have := Bj.set h4 4 v4
    rwa [show (#[v0, v1, v2, v3, u4, u5, u6] : Array Value).setIfInBounds 4 v4 = #[v0, v1, v2, v3, v4, u5, u6] from rfl] at this
  have h6 : Bj ((((((w.setCell ⟨b, 0, none⟩ v0).setCell ⟨b, 1, none⟩ v1).setCell ⟨b, 2, none⟩ v2).setCell ⟨b, 3, none⟩ v3).setCell ⟨b, 4, none⟩ v4).setCell ⟨b, 5, none⟩ v5) b #[v0, v1, v2, v3, v4, v5, u6] T := by
    have := Bj.set h5 5 v5
    rwa [show (#[v0, v1, v2, v3, v4, u5, u6] : Array Value).setIfInBounds 5 v5 = #[v0, v1, v2, v3, v4, v5, u6] from rfl] at this
  have h7 : Bj (((((((w.setCell ⟨b, 0, none⟩ v0).setCell ⟨b, 1, none⟩ v1).setCell ⟨b, 2, none⟩ v2).setCell ⟨b, 3, none⟩ v3).setCell ⟨b, 4, none⟩ v4).setCell ⟨b, 5, none⟩ v5).setCell ⟨b, 6, none⟩ v6) b #[v0, v1, v2, v3, v4, v5, v6] T := by
    have := Bj.set h6 6 v6
    rwa [show (#[v0, v1, v2, v3, v4, v5, u6] : Array Value).setIfInBounds 6 v6 = #[v0, v1, v2, v3, v4, v5, v6] from rfl] at this
  exact h7
def nestV (ob : Bool) : Nat → ValD
  | 0 => .mk 2 false 1 ⟨#[]⟩ [] [] 0
  | k + 1 => if ob then .mk 5 false 0 ⟨#[]⟩ [] [.mk ⟨#[97]⟩ (nestV ob k) 0] 0 else .mk 4 false 0 ⟨#[]⟩ [nestV ob k] [] 0
theorem nestv_facts (ob : Bool) : ∀ k, (nestV ob k).depth = k + 1 ∧ (nestV ob k).okB = true ∧ (nestV ob k).bulk ≤ 1 + 2 * k
  | 0 => by cases ob <;> decide +kernel
  | k + 1 => by
    obtain ⟨h1, h2, h3⟩ := nestv_facts ob k
    cases ob with
    | false =>
      rw [show nestV false (k + 1) = .mk 4 false 0 ⟨#[]⟩ [nestV false k] [] 0 from rfl]
      refine ⟨?_, ?_, ?_⟩
      · rw [ValD.depth, if_pos rfl, vdepths, vdepths, h1]; omega
      · rw [ValD.okB, okVs, okVs, okMs, h2]; rfl
      · rw [ValD.bulk, bulkVs, bulkVs, bulkMs]
        show 1 + 0 + _ + 0 ≤ _
        omega
    | true =>
      rw [show nestV true (k + 1) = .mk 5 false 0 ⟨#[]⟩ [] [.mk ⟨#[97]⟩ (nestV true k) 0] 0 from rfl]
      refine ⟨?_, ?_, ?_⟩
      · rw [ValD.depth, if_neg (by decide), if_pos rfl, mdepths, mdepths, MemD.depth, h1]; omega
      · rw [ValD.okB, okVs, okMs, okMs, MemD.okB, h2]; rfl
      · rw [ValD.bulk, bulkVs, bulkMs, bulkMs, MemD.bulk]
        show 1 + 0 + 0 + (1 + _ + 0) ≤ _
        omega
theorem nestv_chk (ob : Bool) (k : Nat) : chkZ (nestV ob k) = if k + 1 ≤ 100 then 0 else 22 := by
  obtain ⟨h1, h2, _⟩ := nestv_facts ob k
  unfold chkZ validB
  rw [h1, h2, Bool.true_and]
  by_cases h : k + 1 ≤ 100
  · rw [decide_eq_true h, if_pos rfl, if_pos h]
  · rw [decide_eq_false h, if_neg (by decide), if_neg h]
set_option maxRecDepth 100000 in
set_option maxHeartbeats 16000000 in
theorem walk_JwDepthA (a : Int) (w : World) (hT : TabW w) (ha0 : 0 ≤ a) (ha1 : a ≤ 255) : Calls Tryd.prog 6 #[.int .u8 a, .bool false] w fun e w' => e = .returned (.bool true) ∧ Below w.heap.size w w' := by
  obtain ⟨k, hk⟩ : ∃ k : Nat, a % 120 = (k : Int) := ⟨(a % 120).toNat, by omega⟩
  have hk120 : k < 120 := by omega
  have cA : ∀ wx, TabW wx → _ := fun wx h => jw_alive wx h
  have c0 := jw_IntV 1 w
  rw [show ValD.mk 2 false 1 ⟨#[]⟩ [] [] 0 = nestV false 0 from rfl] at c0
  have HE := Lib.hid (fun (j : Nat) (hj : j ≤ 120) (w1 : World) (c0 c1 c2 c3 c4 c5 c6 : Value) (h : ValIs w1 (nestV false j) (.agg #[c0, c1, c2, c3, c4, c5, c6])) => jw_Array [nestV false j] (fun k hk => by
    have := (nestv_facts false j).2.2
    rw [List.mem_singleton.1 hk]
    omega) _ 1 _ (items_one (w := w1) h) (by show 1 ≤ _; omega))
  have HC := Lib.hid (fun wx v (ht : TabW wx) h => jw_Check (nestV false k) v wx (by have := (nestv_facts false k).2.2; omega) ht.1 h)
  have hne := nestv_chk false k
  have HT := Lib.hid hT
  clear hT
  go_enter Tryd.func6, Tryd.ntmps6
  go_wp2_with fail
  refine c0.mono ?_
  rintro e w1 ⟨⟨v1, rfl, hn1⟩, b1⟩
  replace hn1 := hn1.full
  obtain ⟨p1, c1, q1, d1, rfl⟩ := val_form hn1
  obtain ⟨m0, hm0⟩ : ∃ m0, m0 = nestV false 0 := ⟨_, rfl⟩
  rw [← hm0] at hn1 ⊢
  obtain ⟨nb, hnb⟩ : ∃ nb, nb = w1.heap.size := ⟨_, rfl⟩
  have hzb : w.heap.size ≤ nb := by rw [hnb]; exact b1.size
  have P0 := Bj.new w1 #[.int .i64 m0.kind, .bool m0.b, .int .i64 m0.n, .string m0.s, .slice p1 m0.items.length c1, .slice q1 m0.mems.length d1, .int .i64 m0.at'] 25
  have bA : Below w1.heap.size w1 (w1.alloc (.cells #[.int .i64 m0.kind, .bool m0.b, .int .i64 m0.n, .string m0.s, .slice p1 m0.items.length c1, .slice q1 m0.mems.length d1, .int .i64 m0.at'] 25)) := (Below.refl _ _).alloc (Nat.le_refl _) _
  have N0 : ValIs (sans (w1.alloc (.cells #[.int .i64 m0.kind, .bool m0.b, .int .i64 m0.n, .string m0.s, .slice p1 m0.items.length c1, .slice q1 m0.mems.length d1, .int .i64 m0.at'] 25)) (fun b => decide (b = nb))) m0 (.agg #[.int .i64 m0.kind, .bool m0.b, .int .i64 m0.n, .string m0.s, .slice p1 m0.items.length c1, .slice q1 m0.mems.length d1, .int .i64 m0.at']) :=
    ValIs.mono (fun ad u hc => by
      have hlt := vblock_lt hc
      rw [sans_out (decide_eq_false (by omega)), bA.cell hlt]
      exact hc) _ _ hn1
  rw [← hnb] at P0
  have HP0 := Lib.hid P0
  have HN0 := Lib.hid N0
  have HB0 := Lib.hid (b1.trans (bA.mono b1.size))
  have HKZ := Lib.hid hk
  have hkz : (k : Int) < 120 := by omega
  have HM0 := Lib.hid hm0
  clear P0 N0 bA b1 hn1 c0 hm0
  rw [hnb] at HP0 hzb HN0
  go_wp2
  clear hk
  generalize w1.heap.size = nb at *
  clear hnb
  go_loopw [13] (fun q wr => ∃ (i : Nat) (m : ValD) (p : Option Addr) (c : Nat) (q' : Option Addr) (d : Nat), i ≤ k ∧ q = .int .i64 i ∧ m = nestV false i ∧ Bj wr nb #[.int .i64 m.kind, .bool m.b, .int .i64 m.n, .string m.s, .slice p m.items.length c, .slice q' m.mems.length d, .int .i64 m.at'] 25 ∧ ValIs (sans wr (fun b => decide (b = nb))) m (.agg #[.int .i64 m.kind, .bool m.b, .int .i64 m.n, .string m.s, .slice p m.items.length c, .slice q' m.mems.length d, .int .i64 m.at']) ∧ Below w.heap.size w wr) (fun q _ => k - (intOf q).toNat)
  case atStart => exact ⟨0, m0, p1, c1, q1, d1, Nat.zero_le _, rfl, HM0.out, HP0.out, HN0.out, HB0.out⟩
  case round =>
    clear HP0 HN0 HB0 HM0
    obtain ⟨i, m, p, c, q, d, hi, rfl, hm, hP, hN, hbel⟩ := hrel
    have hz := hbel.size
    have hlt0 := hP.lt
    obtain ⟨⟨r0, r1, r2, r3, r4, r5, r6⟩, -⟩ := hP.seven
    by_cases hlt : i < k
    · have hiz : (i : Int) < (k : Int) := by omega
      have HP := Lib.hid hP
      have HBL := Lib.hid hbel
      obtain ⟨m2, hm2⟩ : ∃ m2, m2 = nestV false (i + 1) := ⟨_, rfl⟩
      have c1 := HE.out i (by omega) wr _ _ _ _ _ _ _ (by rw [← hm]; exact hN.full)
      rw [show [nestV false i].length = 1 from rfl, show ValD.mk 4 false 0 ⟨#[]⟩ [nestV false i] [] 0 = nestV false (i + 1) from rfl] at c1
      rw [← hm2] at c1
      have HM2 := Lib.hid hm2
      have hbe : Below wr.heap.size wr (wr.alloc (.cells #[.int .i64 m.kind, .bool m.b, .int .i64 m.n, .string m.s, .slice p m.items.length c, .slice q m.mems.length d, .int .i64 m.at'] 25)) := (Below.refl _ _).alloc (Nat.le_refl _) _
      have HBE := Lib.hid hbe
      clear hP hN hbel hm hm2 hbe
      go_wp2_with fail
      refine c1.mono ?_
      rintro e w3 ⟨⟨v3, rfl, hn3⟩, b3⟩
      obtain ⟨p3, c3, q3, d3, rfl⟩ := val_form hn3
      have b4 := HBE.out.trans (b3.mono HBE.out.size)
      have P3 := HP.out.more b4
      obtain ⟨⟨e0, e1, e2, e3, e4, e5, e6⟩, f0, f1, f2, f3, f4, f5, f6⟩ := P3.seven
      have hsz := HBE.out.size
      have hsb := b3.size
      have P7 := jset7 (Pj.refl (fun b => b = nb) w3) (b := nb) (.inl rfl) 0 (.int .i64 m2.kind) (.bool m2.b) (.int .i64 m2.n) (.string m2.s) (.slice p3 m2.items.length c3) (.slice q3 m2.mems.length d3) (.int .i64 m2.at')
      have Q7 := Lib.hid (bj_set7 P3 (.int .i64 m2.kind) (.bool m2.b) (.int .i64 m2.n) (.string m2.s) (.slice p3 m2.items.length c3) (.slice q3 m2.mems.length d3) (.int .i64 m2.at'))
      have N7 := Lib.hid (hn3.go (fun b hb hn => by
        have hq := low_no hn
        have hne : b ≠ nb := by omega
        exact ⟨decide_eq_false hne, P7.block b hb hne⟩ : Gos w3 _ _ (fun b => decide (b = nb))))
      have B7 := Lib.hid (P7.below (HBL.out.trans (b4.mono hz)) (fun b hb => by omega) (by have := b4.size; omega))
      clear P7 P3 hn3 b3 b4 c1 HP HBE HBL hsz hsb r0 r1 r2 r3 r4 r5 r6
      go_wp2
      go_roundw
      case rel => exact ⟨i + 1, m2, p3, c3, q3, d3, by omega, by go_num, HM2.out, Q7.out, N7.out, B7.out⟩
      case measure => simp [intOf]; omega
    · obtain rfl : i = k := by omega
      have hiz : ¬ (i : Int) < (i : Int) := by omega
      subst hm
      have hw1 : IntKind.i64.wrap ((i : Int) + 1) = (i : Int) + 1 := wrap_small _ (by omega) (by omega)
      have HP := Lib.hid hP
      have HN := Lib.hid hN.full
      have t1 := TabW_below HT.out hbel
      have HBL := Lib.hid hbel
      clear hP hN hbel HE r0 r1 r2 r3 r4 r5 r6
      by_cases hd : i + 1 ≤ 100
      · have hdz : ¬ (100 : Int) < (i : Int) + 1 := by omega
        rw [if_pos hd] at hne
        have HC2 := Lib.hid (fun wx v ht h => (hne ▸ HC.out wx v ht h : Calls Tryd.prog 11 #[v] wx fun e w' => e = .returned (.int .i64 0) ∧ Below wx.heap.size wx w'))
        clear hne HC hd
        generalize nestV false i = n at *
        go_wp2_with fail
        refine (cA _ t1).mono ?_
        rintro e w4 ⟨rfl, b4⟩
        have B4 := HBL.out.trans (b4.mono hz)
        have t4 := TabW_below HT.out B4
        obtain ⟨⟨r0, r1, r2, r3, r4, r5, r6⟩, -⟩ := (HP.out.more b4).seven
        have c5 := HC2.out _ _ t4 (HN.out.below b4)
        clear b4 HP HN
        go_wp2_with fail
        refine c5.mono ?_
        rintro e w5 ⟨rfl, b5⟩
        have B5 := B4.trans (b5.mono B4.size)
        go_wp2
        go_ret
        exact ⟨by simp, B5⟩
      · have hdz : (100 : Int) < (i : Int) + 1 := by omega
        rw [if_neg hd] at hne
        have HC2 := Lib.hid (fun wx v ht h => (hne ▸ HC.out wx v ht h : Calls Tryd.prog 11 #[v] wx fun e w' => e = .returned (.int .i64 22) ∧ Below wx.heap.size wx w'))
        clear hne HC hd
        generalize nestV false i = n at *
        go_wp2_with fail
        refine (cA _ t1).mono ?_
        rintro e w4 ⟨rfl, b4⟩
        have B4 := HBL.out.trans (b4.mono hz)
        have t4 := TabW_below HT.out B4
        obtain ⟨⟨r0, r1, r2, r3, r4, r5, r6⟩, -⟩ := (HP.out.more b4).seven
        have c5 := HC2.out _ _ t4 (HN.out.below b4)
        clear b4 HP HN
        go_wp2_with fail
        refine c5.mono ?_
        rintro e w5 ⟨rfl, b5⟩
        have B5 := B4.trans (b5.mono B4.size)
        go_wp2
        go_ret
        exact ⟨by simp, B5⟩
set_option maxRecDepth 100000 in
set_option maxHeartbeats 16000000 in
theorem walk_JwDepthO (a : Int) (w : World) (hT : TabW w) (ha0 : 0 ≤ a) (ha1 : a ≤ 255) : Calls Tryd.prog 6 #[.int .u8 a, .bool true] w fun e w' => e = .returned (.bool true) ∧ Below w.heap.size w w' := by
  obtain ⟨k, hk⟩ : ∃ k : Nat, a % 120 = (k : Int) := ⟨(a % 120).toNat, by omega⟩
  have hk120 : k < 120 := by omega
  have cA : ∀ wx, TabW wx → _ := fun wx h => jw_alive wx h
  have c0 := jw_IntV 1 w
  rw [show ValD.mk 2 false 1 ⟨#[]⟩ [] [] 0 = nestV true 0 from rfl] at c0
  have HM := Lib.hid (fun (j : Nat) (hj : j ≤ 120) (w1 : World) (v : Value) (h : ValIs w1 (nestV true j) v) => jw_Member ⟨#[97]⟩ (nestV true j) v w1 (by have := (nestv_facts true j).2.2; omega) h)
  have HE := Lib.hid (fun (j : Nat) (hj : j ≤ 120) (w1 : World) (c0 c1 c2 c3 c4 c5 c6 : Value) (h : ValIs w1 (nestV true j) (.agg #[c0, c1, c2, c3, c4, c5, c6])) => jw_Object [.mk ⟨#[97]⟩ (nestV true j) 0] (fun k hk => by
    have := (nestv_facts true j).2.2
    rw [List.mem_singleton.1 hk]
    show (nestV true j).bulk ≤ _
    omega) _ 1 _ (mems_one (w := w1) (a := ⟨#[97]⟩) h) (by show 1 ≤ _; omega))
  have HC := Lib.hid (fun wx v (ht : TabW wx) h => jw_Check (nestV true k) v wx (by have := (nestv_facts true k).2.2; omega) ht.1 h)
  have hne := nestv_chk true k
  have HT := Lib.hid hT
  clear hT
  go_enter Tryd.func6, Tryd.ntmps6
  go_wp2_with fail
  refine c0.mono ?_
  rintro e w1 ⟨⟨v1, rfl, hn1⟩, b1⟩
  replace hn1 := hn1.full
  obtain ⟨p1, c1, q1, d1, rfl⟩ := val_form hn1
  obtain ⟨m0, hm0⟩ : ∃ m0, m0 = nestV true 0 := ⟨_, rfl⟩
  rw [← hm0] at hn1 ⊢
  obtain ⟨nb, hnb⟩ : ∃ nb, nb = w1.heap.size := ⟨_, rfl⟩
  have hzb : w.heap.size ≤ nb := by rw [hnb]; exact b1.size
  have P0 := Bj.new w1 #[.int .i64 m0.kind, .bool m0.b, .int .i64 m0.n, .string m0.s, .slice p1 m0.items.length c1, .slice q1 m0.mems.length d1, .int .i64 m0.at'] 25
  have bA : Below w1.heap.size w1 (w1.alloc (.cells #[.int .i64 m0.kind, .bool m0.b, .int .i64 m0.n, .string m0.s, .slice p1 m0.items.length c1, .slice q1 m0.mems.length d1, .int .i64 m0.at'] 25)) := (Below.refl _ _).alloc (Nat.le_refl _) _
  have N0 : ValIs (sans (w1.alloc (.cells #[.int .i64 m0.kind, .bool m0.b, .int .i64 m0.n, .string m0.s, .slice p1 m0.items.length c1, .slice q1 m0.mems.length d1, .int .i64 m0.at'] 25)) (fun b => decide (b = nb))) m0 (.agg #[.int .i64 m0.kind, .bool m0.b, .int .i64 m0.n, .string m0.s, .slice p1 m0.items.length c1, .slice q1 m0.mems.length d1, .int .i64 m0.at']) :=
    ValIs.mono (fun ad u hc => by
      have hlt := vblock_lt hc
      rw [sans_out (decide_eq_false (by omega)), bA.cell hlt]
      exact hc) _ _ hn1
  rw [← hnb] at P0
  have HP0 := Lib.hid P0
  have HN0 := Lib.hid N0
  have HB0 := Lib.hid (b1.trans (bA.mono b1.size))
  have HKZ := Lib.hid hk
  have hkz : (k : Int) < 120 := by omega
  have HM0 := Lib.hid hm0
  clear P0 N0 bA b1 hn1 c0 hm0
  rw [hnb] at HP0 hzb HN0
  go_wp2
  clear hk
  generalize w1.heap.size = nb at *
  clear hnb
  go_loopw [13] (fun q wr => ∃ (i : Nat) (m : ValD) (p : Option Addr) (c : Nat) (q' : Option Addr) (d : Nat), i ≤ k ∧ q = .int .i64 i ∧ m = nestV true i ∧ Bj wr nb #[.int .i64 m.kind, .bool m.b, .int .i64 m.n, .string m.s, .slice p m.items.length c, .slice q' m.mems.length d, .int .i64 m.at'] 25 ∧ ValIs (sans wr (fun b => decide (b = nb))) m (.agg #[.int .i64 m.kind, .bool m.b, .int .i64 m.n, .string m.s, .slice p m.items.length c, .slice q' m.mems.length d, .int .i64 m.at']) ∧ Below w.heap.size w wr) (fun q _ => k - (intOf q).toNat)
  case atStart => exact ⟨0, m0, p1, c1, q1, d1, Nat.zero_le _, rfl, HM0.out, HP0.out, HN0.out, HB0.out⟩
  case round =>
    clear HP0 HN0 HB0 HM0
    obtain ⟨i, m, p, c, q, d, hi, rfl, hm, hP, hN, hbel⟩ := hrel
    have hz := hbel.size
    have hlt0 := hP.lt
    obtain ⟨⟨r0, r1, r2, r3, r4, r5, r6⟩, -⟩ := hP.seven
    by_cases hlt : i < k
    · have hiz : (i : Int) < (k : Int) := by omega
      have HP := Lib.hid hP
      have HBL := Lib.hid hbel
      obtain ⟨m2, hm2⟩ : ∃ m2, m2 = nestV true (i + 1) := ⟨_, rfl⟩
      have cm := HM.out i (by omega) wr _ (by rw [← hm]; exact hN.full)
      have cE := HE.out i (by omega)
      rw [show [MemD.mk ⟨#[97]⟩ (nestV true i) 0].length = 1 from rfl, show ValD.mk 5 false 0 ⟨#[]⟩ [] [.mk ⟨#[97]⟩ (nestV true i) 0] 0 = nestV true (i + 1) from rfl] at cE
      rw [← hm2, ← hm] at cE
      rw [← hm] at cm
      have HM2 := Lib.hid hm2
      clear hP hN hbel hm hm2
      go_wp2_with fail
      refine cm.mono ?_
      rintro e w2 ⟨⟨y0, y1, y2, y3, y4, y5, y6, rfl, hx2⟩, b2⟩
      replace hx2 := hx2.full
      obtain ⟨p2, c2, q2, d2, he⟩ := val_form hx2
      simp only [Value.agg.injEq, Array.mk.injEq, List.cons.injEq, and_true] at he
      obtain ⟨rfl, rfl, rfl, rfl, rfl, rfl, rfl⟩ := he
      have c1 := cE w2 _ _ _ _ _ _ _ hx2
      have hbe : Below w2.heap.size w2 (w2.alloc (.cells #[.string ⟨#[97]⟩, .int .i64 m.kind, .bool m.b, .int .i64 m.n, .string m.s, .slice p2 m.items.length c2, .slice q2 m.mems.length d2, .int .i64 m.at', .int .i64 0] 36)) := (Below.refl _ _).alloc (Nat.le_refl _) _
      have HBE := Lib.hid (b2.trans (hbe.mono b2.size))
      clear cm cE hx2 b2 hbe r0 r1 r2 r3 r4 r5 r6
      go_wp2_with fail
      refine c1.mono ?_
      rintro e w3 ⟨⟨v3, rfl, hn3⟩, b3⟩
      obtain ⟨p3, c3, q3, d3, rfl⟩ := val_form hn3
      have b4 := HBE.out.trans (b3.mono HBE.out.size)
      have P3 := HP.out.more b4
      obtain ⟨⟨e0, e1, e2, e3, e4, e5, e6⟩, f0, f1, f2, f3, f4, f5, f6⟩ := P3.seven
      have hsz := HBE.out.size
      have hsb := b3.size
      have P7 := jset7 (Pj.refl (fun b => b = nb) w3) (b := nb) (.inl rfl) 0 (.int .i64 m2.kind) (.bool m2.b) (.int .i64 m2.n) (.string m2.s) (.slice p3 m2.items.length c3) (.slice q3 m2.mems.length d3) (.int .i64 m2.at')
      have Q7 := Lib.hid (bj_set7 P3 (.int .i64 m2.kind) (.bool m2.b) (.int .i64 m2.n) (.string m2.s) (.slice p3 m2.items.length c3) (.slice q3 m2.mems.length d3) (.int .i64 m2.at'))
      have N7 := Lib.hid (hn3.go (fun b hb hn => by
        have hq := low_no hn
        have hne : b ≠ nb := by omega
        exact ⟨decide_eq_false hne, P7.block b hb hne⟩ : Gos w3 _ _ (fun b => decide (b = nb))))
      have B7 := Lib.hid (P7.below (HBL.out.trans (b4.mono hz)) (fun b hb => by omega) (by have := b4.size; omega))
      clear P7 P3 hn3 b3 b4 c1 HP HBE HBL hsz hsb
      go_wp2
      go_roundw
      case rel => exact ⟨i + 1, m2, p3, c3, q3, d3, by omega, by go_num, HM2.out, Q7.out, N7.out, B7.out⟩
      case measure => simp [intOf]; omega
    · obtain rfl : i = k := by omega
      have hiz : ¬ (i : Int) < (i : Int) := by omega
      subst hm
      have hw1 : IntKind.i64.wrap ((i : Int) + 1) = (i : Int) + 1 := wrap_small _ (by omega) (by omega)
      have HP := Lib.hid hP
      have HN := Lib.hid hN.full
      have t1 := TabW_below HT.out hbel
      have HBL := Lib.hid hbel
      clear hP hN hbel HE r0 r1 r2 r3 r4 r5 r6
      by_cases hd : i + 1 ≤ 100
      · have hdz : ¬ (100 : Int) < (i : Int) + 1 := by omega
        rw [if_pos hd] at hne
        have HC2 := Lib.hid (fun wx v ht h => (hne ▸ HC.out wx v ht h : Calls Tryd.prog 11 #[v] wx fun e w' => e = .returned (.int .i64 0) ∧ Below wx.heap.size wx w'))
        clear hne HC hd
        generalize nestV true i = n at *
        go_wp2_with fail
        refine (cA _ t1).mono ?_
        rintro e w4 ⟨rfl, b4⟩
        have B4 := HBL.out.trans (b4.mono hz)
        have t4 := TabW_below HT.out B4
        obtain ⟨⟨r0, r1, r2, r3, r4, r5, r6⟩, -⟩ := (HP.out.more b4).seven
        have c5 := HC2.out _ _ t4 (HN.out.below b4)
        clear b4 HP HN
        go_wp2_with fail
        refine c5.mono ?_
        rintro e w5 ⟨rfl, b5⟩
        have B5 := B4.trans (b5.mono B4.size)
        go_wp2
        go_ret
        exact ⟨by simp, B5⟩
      · have hdz : (100 : Int) < (i : Int) + 1 := by omega
        rw [if_neg hd] at hne
        have HC2 := Lib.hid (fun wx v ht h => (hne ▸ HC.out wx v ht h : Calls Tryd.prog 11 #[v] wx fun e w' => e = .returned (.int .i64 22) ∧ Below wx.heap.size wx w'))
        clear hne HC hd
        generalize nestV true i = n at *
        go_wp2_with fail
        refine (cA _ t1).mono ?_
        rintro e w4 ⟨rfl, b4⟩
        have B4 := HBL.out.trans (b4.mono hz)
        have t4 := TabW_below HT.out B4
        obtain ⟨⟨r0, r1, r2, r3, r4, r5, r6⟩, -⟩ := (HP.out.more b4).seven
        have c5 := HC2.out _ _ t4 (HN.out.below b4)
        clear b4 HP HN
        go_wp2_with fail
        refine c5.mono ?_
        rintro e w5 ⟨rfl, b5⟩
        have B5 := B4.trans (b5.mono B4.size)
        go_wp2
        go_ret
        exact ⟨by simp, B5⟩
theorem walk_JwDepth (a : Int) (ob : Bool) (w : World) (hT : TabW w) (ha0 : 0 ≤ a) (ha1 : a ≤ 255) : Calls Tryd.prog 6 #[.int .u8 a, .bool ob] w fun e w' => e = .returned (.bool true) ∧ Below w.heap.size w w' := by
  cases ob
  · exact walk_JwDepthA a w hT ha0 ha1
  · exact walk_JwDepthO a w hT ha0 ha1
end Go.Proofs.YtdooadalkbghgaaDoor
end
