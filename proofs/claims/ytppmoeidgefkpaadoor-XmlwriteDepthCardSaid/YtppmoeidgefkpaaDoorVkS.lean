/- Packed from the texts WrP. -/
import Derived.Test.YtppmoeidgefkpaaDoorVkR
section
namespace Go.Proofs.YtppmoeidgefkpaaDoor
open Go.RowKit
def nestP : Nat → NodeD
  | 0 => elemP ⟨#[97]⟩ []
  | k + 1 => elemP ⟨#[97]⟩ [nestP k]
theorem nest_kind : ∀ k, (nestP k).kind = 0
  | 0 => rfl
  | _ + 1 => rfl
theorem nest_keep (k : Nat) : [nestP k].filter keepB = [nestP k] := keep_yes [] (by rw [keep_eq, nest_kind]; rfl)
theorem nest_eq (k : Nat) : nestP (k + 1) = .mk 0 ⟨#[]⟩ ⟨#[97]⟩ [] [nestP k] ⟨#[]⟩ 0 := by
  rw [nestP, elemP, nest_keep]
theorem nest_facts : ∀ k, (nestP k).depth = k + 1 ∧ (nestP k).okB = true ∧ (nestP k).cnt = k + 1 ∧ (nestP k).acnt = 0 ∧ (nestP k).mass = 2 * (k + 1)
  | 0 => by decide +kernel
  | k + 1 => by
    obtain ⟨h1, h2, h3, h4, h5⟩ := nest_facts k
    rw [nest_eq]
    refine ⟨?_, ?_, ?_, ?_, ?_⟩
    · rw [NodeD.depth, depths, depths, h1]; simp
    · rw [ok_eq]
      have hq : isQB ⟨#[97]⟩ = true := by decide +kernel
      simp only [NodeD.kind, NodeD.headOk, NodeD.sp, NodeD.tx, NodeD.nm, NodeD.al, NodeD.kids, attrsOk, okBs, h2, hq]
      rfl
    · rw [NodeD.cnt, cnts, cnts, h3]; omega
    · rw [NodeD.acnt, acnts, acnts, h4]; rfl
    · rw [NodeD.mass, masses, masses, h5]
      show 1 + 0 + 1 + 0 + 0 + (2 * (k + 1) + 0) = _
      omega
theorem nest_err (k : Nat) : errP (nestP k) = if k + 1 ≤ 100 then 0 else 22 := by
  obtain ⟨h1, h2, _⟩ := nest_facts k
  unfold errP NodeD.goodB
  rw [nest_kind, h1, h2, Bool.and_true]
  by_cases h : k + 1 ≤ 100
  · rw [decide_eq_true h, if_pos h]; rfl
  · rw [decide_eq_false h, if_neg h]; rfl
set_option maxRecDepth 100000 in
set_option maxHeartbeats 16000000 in
theorem walk_WrDepth (a : Int) (w : World) (hT : HasTabs w) (ha0 : 0 ≤ a) (ha1 : a ≤ 255) : Calls Tryd.prog 6 #[.int .u8 a] w fun e w' => e = .returned (.bool true) ∧ Below w.heap.size w w' := by
  obtain ⟨k, hk⟩ : ∃ k : Nat, a % 120 = (k : Int) := ⟨(a % 120).toNat, by omega⟩
  have hk120 : k < 120 := by omega
  have cA : ∀ wx, HasTabs wx → _ := fun wx h => wr_alive wx h
  have c0 := xw_ElemL [] ⟨#[97]⟩ [] none 0 w (fun b hb => by cases hb) (by rw [KidsAt]; trivial) (by decide) (fun k hk => by cases hk)
  rw [show ([] : List NodeD).length = 0 from rfl, show elemP ⟨#[97]⟩ [] = nestP 0 from rfl] at c0
  have cE : ∀ j, j ≤ 120 → ∀ w1 nb c0 d1 d2 d3 d4 d5 d6, nb < w1.heap.size → NodeIs w1 (nestP j) (.agg #[c0, d1, d2, d3, d4, d5, d6]) → _ := fun j hj w1 nb c0 d1 d2 d3 d4 d5 d6 hnb h => xw_ElemL [nb] ⟨#[97]⟩ [nestP j] _ 1 _ (fun b hb => by rw [List.mem_singleton.1 hb, World.size_alloc]; omega) (kids_one (w := w1) (n := nestP j) (c0 := c0) (c1 := d1) (c2 := d2) (c3 := d3) (c4 := d4) (c5 := d5) (c6 := d6) h) (by show 1 ≤ _; omega) (fun k hk => by
    obtain ⟨_, _, h3, h4, _⟩ := nest_facts j
    rw [List.mem_singleton.1 hk, h3, h4]
    omega)
  have HE := Lib.hid cE
  have HC := Lib.hid (fun wx v ht h => xw_Check (nestP k) v wx (by have := (nest_facts k).2.2.2.2; omega) ht h)
  have hne := nest_err k
  have HT := Lib.hid hT
  clear cE hT
  go_enter Tryd.func6, Tryd.ntmps6
  go_wp2_with fail
  refine c0.mono ?_
  rintro e w1 ⟨v1, rfl, hn1, b1⟩
  rw [holes_nil] at hn1
  obtain ⟨pa1, ca1, pk1, ck1, rfl⟩ := node_form hn1
  obtain ⟨nb, hnb⟩ : ∃ nb, nb = w1.heap.size := ⟨_, rfl⟩
  have hzb : w.heap.size ≤ nb := by rw [hnb]; exact b1.size
  have P0 := Blk.new w1 #[.int .i64 (nestP 0).kind, .string (nestP 0).sp, .string (nestP 0).nm, .slice pa1 (nestP 0).al.length ca1, .slice pk1 (nestP 0).kids.length ck1, .string (nestP 0).tx, .int .i64 (nestP 0).at'] 25
  have bA : Below w1.heap.size w1 (w1.alloc (.cells #[.int .i64 (nestP 0).kind, .string (nestP 0).sp, .string (nestP 0).nm, .slice pa1 (nestP 0).al.length ca1, .slice pk1 (nestP 0).kids.length ck1, .string (nestP 0).tx, .int .i64 (nestP 0).at'] 25)) := (Below.refl _ _).alloc (Nat.le_refl _) _
  have N0 : NodeIs (holes (w1.alloc (.cells #[.int .i64 (nestP 0).kind, .string (nestP 0).sp, .string (nestP 0).nm, .slice pa1 (nestP 0).al.length ca1, .slice pk1 (nestP 0).kids.length ck1, .string (nestP 0).tx, .int .i64 (nestP 0).at'] 25)) [nb]) (nestP 0) (.agg #[.int .i64 (nestP 0).kind, .string (nestP 0).sp, .string (nestP 0).nm, .slice pa1 (nestP 0).al.length ca1, .slice pk1 (nestP 0).kids.length ck1, .string (nestP 0).tx, .int .i64 (nestP 0).at']) := by
    have := hn1
    rw [← holes_nil w1] at this
    exact this.go (fun b hb _ => ⟨fun e => by simp at e; omega, bA.block b hb⟩)
  rw [← hnb] at P0
  have HP0 := Lib.hid P0
  have HN0 := Lib.hid N0
  have HB0 := Lib.hid (b1.trans (bA.mono b1.size))
  have hkz : (k : Int) < 120 := by omega
  have HKZ := Lib.hid hk
  clear P0 N0 bA b1 hn1 c0
  rw [hnb] at HP0 hzb
  rw [hnb] at HN0
  go_wp2
  clear hk
  generalize w1.heap.size = nb at *
  clear hnb
  go_loopw [11] (fun q wr => ∃ (i : Nat) (m : NodeD) (pa : Option Addr) (ca : Nat) (pk : Option Addr) (ck : Nat), i ≤ k ∧ q = .int .i64 i ∧ m = nestP i ∧ Blk wr nb #[.int .i64 m.kind, .string m.sp, .string m.nm, .slice pa m.al.length ca, .slice pk m.kids.length ck, .string m.tx, .int .i64 m.at'] 25 ∧ NodeIs (holes wr [nb]) m (.agg #[.int .i64 m.kind, .string m.sp, .string m.nm, .slice pa m.al.length ca, .slice pk m.kids.length ck, .string m.tx, .int .i64 m.at']) ∧ Below w.heap.size w wr) (fun q _ => k - (intOf q).toNat)
  case atStart => exact ⟨0, nestP 0, pa1, ca1, pk1, ck1, Nat.zero_le _, rfl, rfl, HP0.out, HN0.out, HB0.out⟩
  case round =>
    clear HP0 HN0 HB0
    obtain ⟨i, m, pa, ca, pk, ck, hi, rfl, hm, hP, hN, hbel⟩ := hrel
    have hz := hbel.size
    have hlt0 := hP.lt
    have q0 : wr.cell? ⟨nb, 0, none⟩ = some (.int .i64 m.kind) := hP.cell 0
    have q1 : wr.cell? ⟨nb, 1, none⟩ = some (.string m.sp) := hP.cell 1
    have q2 : wr.cell? ⟨nb, 2, none⟩ = some (.string m.nm) := hP.cell 2
    have q3 : wr.cell? ⟨nb, 3, none⟩ = some (.slice pa m.al.length ca) := hP.cell 3
    have q4 : wr.cell? ⟨nb, 4, none⟩ = some (.slice pk m.kids.length ck) := hP.cell 4
    have q5 : wr.cell? ⟨nb, 5, none⟩ = some (.string m.tx) := hP.cell 5
    have q6 : wr.cell? ⟨nb, 6, none⟩ = some (.int .i64 m.at') := hP.cell 6
    by_cases hlt : i < k
    · have hiz : (i : Int) < (k : Int) := by omega
      have c1 := HE.out i (by omega) wr nb _ _ _ _ _ _ _ hlt0 (by rw [← hm]; exact hN.full)
      rw [show [nestP i].length = 1 from rfl, show elemP ⟨#[97]⟩ [nestP i] = nestP (i + 1) from rfl] at c1
      have HP := Lib.hid hP
      have hbe : Below wr.heap.size wr (wr.alloc (.cells #[.int .i64 m.kind, .string m.sp, .string m.nm, .slice pa m.al.length ca, .slice pk m.kids.length ck, .string m.tx, .int .i64 m.at'] 25)) := (Below.refl _ _).alloc (Nat.le_refl _) _
      have HBE := Lib.hid hbe
      have HBL := Lib.hid hbel
      obtain ⟨m2, hm2⟩ : ∃ m2, m2 = nestP (i + 1) := ⟨_, rfl⟩
      rw [← hm2] at c1
      have HM2 := Lib.hid hm2
      clear hP hN hbel hbe hm hm2
      go_wp2_with fail
      refine c1.mono ?_
      rintro e w3 ⟨v3, rfl, hn3, b3⟩
      obtain ⟨pa3, ca3, pk3, ck3, rfl⟩ := node_form hn3
      have b4 := HBE.out.trans (b3.mono HBE.out.size)
      have P3 := HP.out.more b4
      have e0 : w3.cell? ⟨nb, 0, none⟩ = some (.int .i64 m.kind) := P3.cell 0
      have e1 : w3.cell? ⟨nb, 1, none⟩ = some (.string m.sp) := P3.cell 1
      have e2 : w3.cell? ⟨nb, 2, none⟩ = some (.string m.nm) := P3.cell 2
      have e3 : w3.cell? ⟨nb, 3, none⟩ = some (.slice pa m.al.length ca) := P3.cell 3
      have e4 : w3.cell? ⟨nb, 4, none⟩ = some (.slice pk m.kids.length ck) := P3.cell 4
      have e5 : w3.cell? ⟨nb, 5, none⟩ = some (.string m.tx) := P3.cell 5
      have e6 : w3.cell? ⟨nb, 6, none⟩ = some (.int .i64 m.at') := P3.cell 6
      have f0 := P3.fr 0
      have f1 := P3.fr 1
      have f2 := P3.fr 2
      have f3 := P3.fr 3
      have f4 := P3.fr 4
      have f5 := P3.fr 5
      have f6 := P3.fr 6
      have P7 := part_set7 (Part.refl (fun b => b = nb) w3) (b := nb) (.inl rfl) 0 (.int .i64 m2.kind) (.string m2.sp) (.string m2.nm) (.slice pa3 m2.al.length ca3) (.slice pk3 m2.kids.length ck3) (.string m2.tx) (.int .i64 m2.at')
      have Q7 := Lib.hid (blk_set7 P3 0 (.int .i64 m2.kind) (.string m2.sp) (.string m2.nm) (.slice pa3 m2.al.length ca3) (.slice pk3 m2.kids.length ck3) (.string m2.tx) (.int .i64 m2.at'))
      have N7 := Lib.hid (hn3.go (fun b hb hn => ⟨hn, P7.block b hb (fun e => hn (by simp [e]))⟩ : Goes w3 [nb] _ [nb]))
      have B7 := Lib.hid (P7.below (HBL.out.trans (b4.mono hz)) (fun b hb => by omega) (by have := b4.size; omega))
      clear P7 P3 hn3 b3 b4 c1 q0 q1 q2 q3 q4 q5 q6 HP HBE HBL
      go_wp2
      go_roundw
      case rel => exact ⟨i + 1, m2, pa3, ca3, pk3, ck3, by omega, by go_num, HM2.out, Q7.out, N7.out, B7.out⟩
      case measure => simp [intOf]; omega
    · obtain rfl : i = k := by omega
      have hiz : ¬ (i : Int) < (i : Int) := by omega
      subst hm
      have hw1 : IntKind.i64.wrap ((i : Int) + 1) = (i : Int) + 1 := wrap_small _ (by omega) (by omega)
      have HP := Lib.hid hP
      have HN := Lib.hid hN.full
      have t1 := HasTabs_below HT.out hbel
      have HBL := Lib.hid hbel
      clear hP hN hbel HE q0 q1 q2 q3 q4 q5 q6
      by_cases hd : i + 1 ≤ 100
      · have hdz : ¬ (100 : Int) < (i : Int) + 1 := by omega
        rw [if_pos hd] at hne
        have HC2 := Lib.hid (fun wx v ht h => (hne ▸ HC.out wx v ht h : Calls Tryd.prog 11 #[v] wx fun e w' => e = .returned (.int .i64 0) ∧ Below wx.heap.size wx w'))
        clear hne HC hd
        generalize nestP i = n at *
        go_wp2_with fail
        refine (cA _ t1).mono ?_
        rintro e w4 ⟨rfl, b4⟩
        have B4 := HBL.out.trans (b4.mono hz)
        have t4 := HasTabs_below HT.out B4
        have P4 := HP.out.more b4
        have q0 : w4.cell? ⟨nb, 0, none⟩ = some (.int .i64 n.kind) := P4.cell 0
        have q1 : w4.cell? ⟨nb, 1, none⟩ = some (.string n.sp) := P4.cell 1
        have q2 : w4.cell? ⟨nb, 2, none⟩ = some (.string n.nm) := P4.cell 2
        have q3 : w4.cell? ⟨nb, 3, none⟩ = some (.slice pa n.al.length ca) := P4.cell 3
        have q4 : w4.cell? ⟨nb, 4, none⟩ = some (.slice pk n.kids.length ck) := P4.cell 4
        have q5 : w4.cell? ⟨nb, 5, none⟩ = some (.string n.tx) := P4.cell 5
        have q6 : w4.cell? ⟨nb, 6, none⟩ = some (.int .i64 n.at') := P4.cell 6
        have N4 := HN.out.below b4
        have c5 := HC2.out _ _ t4 N4
        clear b4 HP HN P4 N4
        go_wp2_with fail
        refine c5.mono ?_
        rintro e w5 ⟨rfl, b5⟩
        have B5 := B4.trans (b5.mono B4.size)
        go_wp2
        go_ret
        exact ⟨rfl, B5⟩
      · have hdz : (100 : Int) < (i : Int) + 1 := by omega
        rw [if_neg hd] at hne
        have HC2 := Lib.hid (fun wx v ht h => (hne ▸ HC.out wx v ht h : Calls Tryd.prog 11 #[v] wx fun e w' => e = .returned (.int .i64 22) ∧ Below wx.heap.size wx w'))
        clear hne HC hd
        generalize nestP i = n at *
        go_wp2_with fail
        refine (cA _ t1).mono ?_
        rintro e w4 ⟨rfl, b4⟩
        have B4 := HBL.out.trans (b4.mono hz)
        have t4 := HasTabs_below HT.out B4
        have P4 := HP.out.more b4
        have q0 : w4.cell? ⟨nb, 0, none⟩ = some (.int .i64 n.kind) := P4.cell 0
        have q1 : w4.cell? ⟨nb, 1, none⟩ = some (.string n.sp) := P4.cell 1
        have q2 : w4.cell? ⟨nb, 2, none⟩ = some (.string n.nm) := P4.cell 2
        have q3 : w4.cell? ⟨nb, 3, none⟩ = some (.slice pa n.al.length ca) := P4.cell 3
        have q4 : w4.cell? ⟨nb, 4, none⟩ = some (.slice pk n.kids.length ck) := P4.cell 4
        have q5 : w4.cell? ⟨nb, 5, none⟩ = some (.string n.tx) := P4.cell 5
        have q6 : w4.cell? ⟨nb, 6, none⟩ = some (.int .i64 n.at') := P4.cell 6
        have N4 := HN.out.below b4
        have c5 := HC2.out _ _ t4 N4
        clear b4 HP HN P4 N4
        go_wp2_with fail
        refine c5.mono ?_
        rintro e w5 ⟨rfl, b5⟩
        have B5 := B4.trans (b5.mono B4.size)
        go_wp2
        go_ret
        exact ⟨rfl, B5⟩
end Go.Proofs.YtppmoeidgefkpaaDoor
end
