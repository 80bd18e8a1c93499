/- Packed from the texts NnP NnQ NnR. -/
import Derived.Test.YtbfalppeifkjdaaGreatDoorXNnH
import Derived.Test.YtbfalppeifkjdaaGreatDoorXm3
section
namespace Go.Proofs.YtbfalppeifkjdaaGreatDoor
open Go.RowKit
set_option maxRecDepth 100000 in
set_option maxHeartbeats 16000000 in
theorem nz_eachF (l : List FeedD) (p : Option Addr) (c : Nat) (w : World) (Ok : World → FC → Prop) (hM : OkMono Ok) (N : FeedD → FC → Prop) (X : FeedD → Nat) (B : Nat) (L : List Nat) (hl : FeedsAt w p l) (hB : w.heap.size = B) (hn : l.length ≤ 1000000)
    (cN : ∀ x (v : Value), x ∈ l → FeedIs w x v → ∀ (M : List Nat) (wx : World), Below w.heap.size w wx → (∀ j ∈ M, j < wx.heap.size) → Calls Tryz.prog 15 #[v] wx fun e w' => ∃ y, e = .returned (.tuple #[.agg #[.slice y.p y.f.path.length y.c, .string y.f.id, .string y.f.title, .string y.f.link, .int .i64 y.f.upd, .slice y.q y.f.ents.length y.d], .int .i64 (X x)]) ∧ (X x = 0 → N x y ∧ Ok (holes w' M) y) ∧ Below wx.heap.size wx w')
    (XL : List FeedD → Nat) (hX0 : XL [] = 0) (hXc : ∀ x r, XL (x :: r) = if X x = 0 then XL r else X x) (hLw : ∀ j ∈ L, j < w.heap.size) :
    Calls Tryz.prog 42 #[.slice p l.length c, .func (.func 15) #[] #[]] w fun e w' => ∃ v, e = .returned (.tuple #[v, .int .i64 (XL l)]) ∧ (XL l = 0 → ∃ ys, PairL N l ys ∧ OutAt 35 6 fcCells Ok B L v ys w') ∧ (XL l ≠ 0 → v = .slice none 0 0) ∧ Below w.heap.size w w' := by
  obtain ⟨i0, hi0, hi1, hi3, hi4⟩ := info_parts nz_infoF
  obtain ⟨R, hR⟩ : ∃ R, XL l = R := ⟨_, rfl⟩
  rw [hR]
  have HR := Lib.hid (show R = XL (l.drop 0) by rw [← hR]; rfl)
  have HL := Lib.hid hl
  have HC := Lib.hid cN
  have HXc := Lib.hid hXc
  have HX0 := Lib.hid hX0
  have HBB := Lib.hid hB
  have HLW := Lib.hid hLw
  have hnz : (l.length : Int) ≤ 1000000 := by omega
  have hO0 : OutAt 35 6 fcCells Ok B L (.slice none 0 0) [] w := OutAt.nil w (Nat.le_of_eq hB.symm)
  have HO := Lib.hid hO0
  clear hl cN hXc hX0 hB hLw hO0 hR
  go_enter Tryz.func42, Tryz.ntmps42
  go_wp2
  go_loopw [6, 13] (fun u q wr => ∃ (i : Nat) (ys : List FC) (v : Value), i ≤ l.length ∧ q = .int .i64 (i : Int) ∧ v = u ∧ R = XL (l.drop i) ∧ PairL N (l.take i) ys ∧ OutAt 35 6 fcCells Ok B L v ys wr ∧ Below w.heap.size w wr) (fun _ q _ => l.length - (RowKit.intOf q).toNat)
  case atStart => exact ⟨0, [], _, Nat.zero_le _, rfl, rfl, HR.out, PairL.nil, HO.out, Below.refl _ _⟩
  case round =>
    clear HR HO
    obtain ⟨i, ys, v, hi, rfl, rfl, hR, hY, hO, hb⟩ := hrel
    have hz := hb.size
    have hyl := hY.len
    rw [List.length_take, Nat.min_eq_left hi] at hyl
    by_cases hlt : i < l.length
    · have hiz : (i : Int) < (l.length : Int) := by omega
      obtain ⟨a, p', c', q, d, rfl, ⟨a0, a1, a2, a3, a4, a5⟩, hn, he⟩ := HL.out i hlt
      replace a0 := mcell hb a0
      replace a1 := mcell hb a1
      replace a2 := mcell hb a2
      replace a3 := mcell hb a3
      replace a4 := mcell hb a4
      replace a5 := mcell hb a5
      rw [List.drop_eq_getElem_cons hlt, HXc.out] at hR
      have htk : l.take (i + 1) = l.take i ++ [l[i]] := List.take_succ_eq_append_getElem hlt
      obtain ⟨x, hx⟩ : ∃ x : FC, x = ⟨l[i], p', c', q, d⟩ := ⟨_, rfl⟩
      have hmem : x.f ∈ l := by rw [hx]; exact List.getElem_mem _
      have hxis : FeedIs w x.f (.agg #[.slice x.p x.f.path.length x.c, .string x.f.id, .string x.f.title, .string x.f.link, .int .i64 x.f.upd, .slice x.q x.f.ents.length x.d]) := by rw [hx]; exact ⟨p', c', q, d, rfl, hn, he⟩
      have hxf : l[i] = x.f := by rw [hx]
      have e1 : p' = x.p := by rw [hx]
      have e2 : c' = x.c := by rw [hx]
      have e3 : q = x.q := by rw [hx]
      have e4 : d = x.d := by rw [hx]
      rw [hxf] at hR htk a0 a1 a2 a3 a4 a5
      rw [e1, e2] at a0
      rw [e3, e4] at a5
      clear hx hxf e1 e2 e3 e4 hn he
      obtain ⟨aa, haa⟩ : ∃ aa, a.add (i * 6) = aa := ⟨_, rfl⟩
      rw [haa] at a0 a1 a2 a3 a4 a5
      simp only [Addr.add, Nat.reduceEqDiff, ↓reduceIte] at a1 a2 a3 a4 a5
      obtain ⟨W2, hW2⟩ : ∃ W2, W2 = wr.alloc (.cells #[.slice x.p x.f.path.length x.c, .string x.f.id, .string x.f.title, .string x.f.link, .int .i64 x.f.upd, .slice x.q x.f.ents.length x.d] 35) := ⟨_, rfl⟩
      have hb2 : Below wr.heap.size wr W2 := by rw [hW2]; exact (Below.refl _ _).alloc (Nat.le_refl _) _
      have hX : W2.cell? ⟨wr.heap.size, 0, none⟩ = some (.slice x.p x.f.path.length x.c) ∧ W2.cell? ⟨wr.heap.size, 1, none⟩ = some (.string x.f.id) ∧ W2.cell? ⟨wr.heap.size, 2, none⟩ = some (.string x.f.title) ∧ W2.cell? ⟨wr.heap.size, 3, none⟩ = some (.string x.f.link) ∧ W2.cell? ⟨wr.heap.size, 4, none⟩ = some (.int .i64 x.f.upd) ∧ W2.cell? ⟨wr.heap.size, 5, none⟩ = some (.slice x.q x.f.ents.length x.d) := by
        rw [hW2]
        have h := heap_alloc_new wr (.cells #[.slice x.p x.f.path.length x.c, .string x.f.id, .string x.f.title, .string x.f.link, .int .i64 x.f.upd, .slice x.q x.f.ents.length x.d] 35)
        exact ⟨cell_of_row _ _ 0 _ _ _ h, cell_of_row _ _ 1 _ _ _ h, cell_of_row _ _ 2 _ _ _ h, cell_of_row _ _ 3 _ _ _ h, cell_of_row _ _ 4 _ _ _ h, cell_of_row _ _ 5 _ _ _ h⟩
      have hbw2 := hb.trans (hb2.mono hz)
      have hO2 := hO.more hM hb2
      obtain ⟨vb, hvb⟩ : ∃ vb, vb = v.ownBlock.toList ++ L := ⟨_, rfl⟩
      have hvl : ∀ j ∈ vb, j < W2.heap.size := fun j hj => by
        rw [hvb] at hj
        rcases List.mem_append.1 hj with hj | hj
        · exact (hO2.row.lt j (by simpa using hj)).2
        · have := HLW.out j hj
          have := hbw2.size
          omega
      have cV := HC.out x.f _ hmem hxis vb W2 hbw2 hvl
      obtain ⟨k0, k1, k2, k3, k4, k5⟩ := hX
      have HHY := Lib.hid hY
      have HO2 := Lib.hid hO2
      have HB2 := Lib.hid hbw2
      have HTK := Lib.hid htk
      have HVB := Lib.hid hvb
      clear hY hO hb hO2 hbw2 htk hvb hvl hmem hxis 
      by_cases hx0 : X (x.f) = 0
      · rw [if_pos hx0] at hR
        rw [hx0] at cV
        have HRR := Lib.hid hR
        clear hx0 hR
        go_upto_region 5 with fail
        simp only [← hW2]
        clear hW2 hb2 haa a0 a1 a2 a3 a4 a5
        go_wp2_with fail
        refine cV.mono ?_
        rintro e w4 ⟨y, rfl, hN, b4⟩
        obtain ⟨hN, hOk⟩ := hN trivial
        have hO4 := HO2.out.more hM b4
        have hB4 := HB2.out.trans (b4.mono HB2.out.size)
        rw [HVB.out] at hOk
        obtain ⟨W5, hW5⟩ : ∃ W5, W5 = w4.alloc (.cells #[.slice y.p y.f.path.length y.c, .string y.f.id, .string y.f.title, .string y.f.link, .int .i64 y.f.upd, .slice y.q y.f.ents.length y.d] 35) := ⟨_, rfl⟩
        have hb5 : Below w4.heap.size w4 W5 := by rw [hW5]; exact (Below.refl _ _).alloc (Nat.le_refl _) _
        have hY5 : W5.cell? ⟨w4.heap.size, 0, none⟩ = some (.slice y.p y.f.path.length y.c) ∧ W5.cell? ⟨w4.heap.size, 1, none⟩ = some (.string y.f.id) ∧ W5.cell? ⟨w4.heap.size, 2, none⟩ = some (.string y.f.title) ∧ W5.cell? ⟨w4.heap.size, 3, none⟩ = some (.string y.f.link) ∧ W5.cell? ⟨w4.heap.size, 4, none⟩ = some (.int .i64 y.f.upd) ∧ W5.cell? ⟨w4.heap.size, 5, none⟩ = some (.slice y.q y.f.ents.length y.d) := by
          rw [hW5]
          have h := heap_alloc_new w4 (.cells #[.slice y.p y.f.path.length y.c, .string y.f.id, .string y.f.title, .string y.f.link, .int .i64 y.f.upd, .slice y.q y.f.ents.length y.d] 35)
          exact ⟨cell_of_row _ _ 0 _ _ _ h, cell_of_row _ _ 1 _ _ _ h, cell_of_row _ _ 2 _ _ _ h, cell_of_row _ _ 3 _ _ _ h, cell_of_row _ _ 4 _ _ _ h, cell_of_row _ _ 5 _ _ _ h⟩
        obtain ⟨W6, hW6⟩ : ∃ W6, W6 = W5.alloc (.cells #[.slice y.p y.f.path.length y.c, .string y.f.id, .string y.f.title, .string y.f.link, .int .i64 y.f.upd, .slice y.q y.f.ents.length y.d] 35) := ⟨_, rfl⟩
        have hb6 : Below W5.heap.size W5 W6 := by rw [hW6]; exact (Below.refl _ _).alloc (Nat.le_refl _) _
        have hz6 : W6.heap.size = W5.heap.size + 1 := by rw [hW6]; simp
        have hnews : ∀ j u, ([.slice y.p y.f.path.length y.c, .string y.f.id, .string y.f.title, .string y.f.link, .int .i64 y.f.upd, .slice y.q y.f.ents.length y.d] : List Value)[j]? = some u → W6.cell? ((⟨W5.heap.size, 0, none⟩ : Addr).add j) = some u := by
          rw [hW6]
          exact World.news_of_block (heap_alloc_new W5 (.cells #[.slice y.p y.f.path.length y.c, .string y.f.id, .string y.f.title, .string y.f.link, .int .i64 y.f.upd, .slice y.q y.f.ents.length y.d] 35))
        have hO6 := (hO4.more hM hb5).more hM hb6
        have hOk6 := hM _ _ y (Goes.below (hb5.trans (hb6.mono hb5.size))).both hOk
        have hB6 := (hB4.trans (hb5.mono hB4.size)).trans (hb6.mono (hB4.trans (hb5.mono hB4.size)).size)
        have hrow6 := hO6.row
        have HO6 := Lib.hid hO6
        have HOk6 := Lib.hid hOk6
        have HB6 := Lib.hid hB6
        have HN := Lib.hid hN
        obtain ⟨q0, q1, q2, q3, q4, q5⟩ := hY5
        have h1c : ∀ u ∈ ([.slice y.p y.f.path.length y.c, .string y.f.id, .string y.f.title, .string y.f.link, .int .i64 y.f.upd, .slice y.q y.f.ents.length y.d] : List Value), u.oneCell' = true := by
          intro u hu
          simp only [List.mem_cons, List.not_mem_nil, or_false] at hu
          rcases hu with rfl | rfl | rfl | rfl | rfl | rfl <;> rfl
        have hBw6 : B ≤ W6.heap.size := hO6.size
        have hyz : ys.length ≤ 1000000 := by omega
        have hLN : ([.slice y.p y.f.path.length y.c, .string y.f.id, .string y.f.title, .string y.f.link, .int .i64 y.f.upd, .slice y.q y.f.ents.length y.d] : List Value).length = 1 * 6 := rfl
        clear HO2 HB2 hN hOk hO4 hB4 b4 hO6 hOk6 hB6 cV HVB hb5 hb6
        go_upto_region 6 with fail
        simp only [← hW5]
        clear hW5
        subst hW6
        go_wp2_with (at_builtin; refine wpList_append_lies _ rfl (.tmp 26) (.tmp 28) 37 rfl B 35 i0 (.agg #[.slice none 0 0, .string ⟨#[]⟩, .string ⟨#[]⟩, .string ⟨#[]⟩, .int .i64 0, .slice none 0 0]) 6 104 Tryz.underlying37 hi0 hi1 hi3 hi4 rfl (by decide) v ys.length (rowC fcCells ys) rfl hrow6 ⟨W5.heap.size, 0, none⟩ 1 1 [.slice y.p y.f.path.length y.c, .string y.f.id, .string y.f.title, .string y.f.link, .int .i64 y.f.upd, .slice y.q y.f.ents.length y.d] rfl hLN hnews h1c (by decide) (by unfold maxLen; omega) (by omega) hBw6 _ rfl ?_; intro g cap w7 hown7 hgr7 hat7 hlt7)
        have HN2 := Lib.hid (HO6.out.put hM HOk6.out rfl hown7 hgr7 hat7)
        have HB7 := Lib.hid (HO6.out.below HB6.out (Nat.le_of_eq HBB.out) hgr7)
        clear hown7 hgr7 hat7 hlt7 hnews hrow6 h1c HO6 HOk6 HB6
        go_wp2
        go_roundw
        case rel => exact ⟨i + 1, ys ++ [y], _, by omega, by go_num, by rw [hyl], HRR.out, by rw [HTK.out]; exact HHY.out.snoc HN.out, HN2.out, HB7.out⟩
        case measure => simp [RowKit.intOf]; omega
      · rw [if_neg hx0] at hR
        obtain ⟨n, hn2⟩ : ∃ n, X (x.f) = n := ⟨_, rfl⟩
        rw [hn2] at hR hx0 cV
        obtain ⟨z, hzz⟩ : ∃ z : Int, z = (n : Int) := ⟨_, rfl⟩
        have hz0 : ¬ z = 0 := by omega
        rw [← hzz] at cV
        have HRR := Lib.hid hR
        have HZZ := Lib.hid hzz
        have HX1 := Lib.hid hx0
        clear hR hn2 hzz hx0
        go_upto_region 5 with fail
        simp only [← hW2]
        clear hW2 hb2 haa a0 a1 a2 a3 a4 a5
        go_wp2_with fail
        refine cV.mono ?_
        rintro e w4 ⟨y, rfl, hN, b4⟩
        have HB4 := Lib.hid (HB2.out.trans (b4.mono HB2.out.size))
        have hb5 : ∀ o : Obj, Below w.heap.size w (w4.alloc o) := fun o => HB4.out.alloc (by have := HB4.out.size; omega) o
        have HB5 := Lib.hid hb5
        clear HO2 HB2 b4 cV HVB hb5 hN
        go_wp2
        exact bodyPost_ret (v := .tuple #[.slice none 0 0, .int .i64 z]) (by simp [results, Tryz.results42, go_sem]) rfl ⟨_, by rw [HRR.out, HZZ.out], fun h => absurd (HRR.out.symm.trans h) HX1.out, fun _ => rfl, HB5.out _⟩
    · obtain rfl : i = l.length := by omega
      have hiz : ¬ (l.length : Int) < (l.length : Int) := by omega
      rw [List.drop_length, HX0.out] at hR
      rw [List.take_length] at hY
      have HRR := Lib.hid hR
      have HHY := Lib.hid hY
      have HO2 := Lib.hid hO
      have HB2 := Lib.hid hb
      clear hR hY hO hb
      go_wp2
      exact bodyPost_ret (v := .tuple #[v, .int .i64 0]) (by simp [results, Tryz.results42, go_sem]) rfl ⟨_, by rw [HRR.out]; rfl, fun _ => ⟨ys, HHY.out, HO2.out⟩, fun h => absurd HRR.out h, HB2.out⟩
end Go.Proofs.YtbfalppeifkjdaaGreatDoor
end
section
namespace Go.Proofs.YtbfalppeifkjdaaGreatDoor
open Go.RowKit
theorem ltF_ents (a b : FeedD) : (ltF a b).ents = [] := by unfold ltF; split <;> rfl
theorem rw_take {α : Type} {k : Nat} {enc : α → List Value} {w : World} {p : Option Addr} {l : List α} (h : RwAt k enc w p l) (n : Nat) : RwAt k enc w p (l.take n) := fun i hi => by
  have hi' : i < l.length := by rw [List.length_take] at hi; omega
  have := h i hi'
  rw [List.getElem_take]
  exact this
theorem rw_drop {α : Type} {k : Nat} {enc : α → List Value} {w : World} {a : Addr} {l : List α} (h : RwAt k enc w (some a) l) (n : Nat) : RwAt k enc w (some (a.add (n * k))) (l.drop n) := fun i hi => by
  have hi' : n + i < l.length := by rw [List.length_drop] at hi; omega
  obtain ⟨a', ha, h0⟩ := h (n + i) hi'
  cases ha
  refine ⟨_, rfl, ?_⟩
  rw [add_add, ← Nat.add_mul, List.getElem_drop]
  exact h0
theorem nz_size6 (wx : World) : (sizeOf (Tryz.prog.elem 37)).run Tryz.prog wx = .ok 6 wx := by kernel_rfl
set_option maxRecDepth 100000 in
set_option maxHeartbeats 16000000 in
theorem nz_latestF (M : List Nat) : ∀ (n : Nat) (l : List FC) (p : Option Addr) (c : Nat) (w : World), l.length = n → 0 < n → RwAt 6 fcCells w p l → (∀ x ∈ l, fcOk (holes w M) x) → (∀ j ∈ M, j < w.heap.size) → l.length ≤ c → n ≤ 1000000 → (∀ x ∈ l, FSmU x.f) → TabW w →
    Calls Tryz.prog 79 #[.slice p l.length c, .func (.func 80) #[] #[]] w fun e w' => ∃ y : FC, e = .returned (.agg #[.slice y.p y.f.path.length y.c, .string y.f.id, .string y.f.title, .string y.f.link, .int .i64 y.f.upd, .slice y.q y.f.ents.length y.d]) ∧ lateG (mxB cmpKF) (l.map fun x => bareF x.f) = some (bareF y.f) ∧ fcOk (holes w' M) y ∧ FSmU y.f ∧ Below w.heap.size w w' := by
  intro n
  induction n using Nat.strongRecOn with
  | ind n ih =>
  intro l p c w hn hn0 hl hok hM hc hsz hE hT
  obtain ⟨W1, hW1⟩ : ∃ W1, W1 = w.alloc (.cells #[.slice none 0 0, .string ⟨#[]⟩, .string ⟨#[]⟩, .string ⟨#[]⟩, .int .i64 0, .slice none 0 0] 35) := ⟨_, rfl⟩
  have hB : Below w.heap.size w W1 := by rw [hW1]; exact (Below.refl _ _).alloc (Nat.le_refl _) _
  have hR : MBlk W1 w.heap.size #[.slice none 0 0, .string ⟨#[]⟩, .string ⟨#[]⟩, .string ⟨#[]⟩, .int .i64 0, .slice none 0 0] 35 := by rw [hW1]; exact heap_alloc_new w _
  have h0 : 0 < l.length := by omega
  obtain ⟨a, hp, -⟩ := hl 0 h0
  subst hp
  by_cases h1 : l.length = 1
  · obtain ⟨x, rfl⟩ := List.length_eq_one_iff.1 h1
    obtain ⟨a', ha, hc0⟩ := hl.below hB 0 h0
    cases ha
    have c0 := hc0 0 _ rfl
    have c1 := hc0 1 _ rfl
    have c2 := hc0 2 _ rfl
    have c3 := hc0 3 _ rfl
    have c4 := hc0 4 _ rfl
    have c5 := hc0 5 _ rfl
    simp only [List.getElem_cons_zero, Nat.zero_mul] at c0 c1 c2 c3 c4 c5
    have ha0 : a.add 0 = a := by unfold Addr.add; rw [if_pos rfl]
    rw [ha0] at c0 c1 c2 c3 c4 c5
    simp only [Addr.add, Nat.reduceEqDiff, ↓reduceIte] at c0 c1 c2 c3 c4 c5
    have hM1 := hR
    have r0 := hM1.cell 0
    have r1 := hM1.cell 1
    have r2 := hM1.cell 2
    have r3 := hM1.cell 3
    have r4 := hM1.cell 4
    have r5 := hM1.cell 5
    simp only [List.getElem?_toArray, List.getElem?_cons_zero, List.getElem?_cons_succ] at r0 r1 r2 r3 r4 r5
    have t0 := hM1.fr 0
    have t1 := hM1.fr 1
    have t2 := hM1.fr 2
    have t3 := hM1.fr 3
    have t4 := hM1.fr 4
    have t5 := hM1.fr 5
    have HF : Hid (∀ W' : World, W' = (((((W1.setCell ⟨w.heap.size, 0, none⟩ (.slice x.p x.f.path.length x.c)).setCell ⟨w.heap.size, 1, none⟩ (.string x.f.id)).setCell ⟨w.heap.size, 2, none⟩ (.string x.f.title)).setCell ⟨w.heap.size, 3, none⟩ (.string x.f.link)).setCell ⟨w.heap.size, 4, none⟩ (.int .i64 x.f.upd)).setCell ⟨w.heap.size, 5, none⟩ (.slice x.q x.f.ents.length x.d) → fcOk (holes W' M) x ∧ Below w.heap.size w W') := Lib.hid (fun W' hW' => by
      have hb : Below w.heap.size w W' := by rw [hW']; exact mq_belowset6 hB (Nat.le_refl _) _ _ _ _ _ _
      exact ⟨fcOk_mono _ _ _ (Goes.below hb).both (hok x (List.mem_singleton.2 rfl)), hb⟩)
    have hEx := hE x (List.mem_singleton.2 rfl)
    have HEx := Lib.hid hEx
    clear ih hl hok hM hc hsz hE hT hM1 hR hB h1 hn h0 hn0 hc0 hEx
    go_enter Tryz.func79, Tryz.ntmps79
    go_upto_region 1 with fail
    simp only [← hW1]
    clear hW1
    go_wp2
    exact bodyPost_ret (v := .agg #[.slice x.p x.f.path.length x.c, .string x.f.id, .string x.f.title, .string x.f.link, .int .i64 x.f.upd, .slice x.q x.f.ents.length x.d]) (by simp [results, Tryz.results79, go_sem, mset_same, r0, r1, r2, r3, r4, r5]) rfl ⟨x, rfl, rfl, (HF.out _ rfl).1, HEx.out, (HF.out _ rfl).2⟩
  · obtain ⟨h, hh⟩ : ∃ h, h = l.length / 2 := ⟨_, rfl⟩
    have hh1 : 0 < h := by omega
    have hh2 : h < l.length := by omega
    have E1 : ∀ x ∈ l.take h, FSmU x.f := fun x hx => hE x (List.mem_of_mem_take hx)
    have E2 : ∀ x ∈ l.drop h, FSmU x.f := fun x hx => hE x (List.mem_of_mem_drop hx)
    have O1 : ∀ wx, Below w.heap.size w wx → ∀ x ∈ l.take h, fcOk (holes wx M) x := fun wx hb x hx => fcOk_mono _ _ _ (Goes.below hb).both (hok x (List.mem_of_mem_take hx))
    have O2 : ∀ wx, Below w.heap.size w wx → ∀ x ∈ l.drop h, fcOk (holes wx M) x := fun wx hb x hx => fcOk_mono _ _ _ (Goes.below hb).both (hok x (List.mem_of_mem_drop hx))
    have hl1 : (l.take h).length = h := by rw [List.length_take]; omega
    have hl2 : (l.drop h).length = l.length - h := by rw [List.length_drop]
    have hMx : ∀ wx, Below w.heap.size w wx → ∀ j ∈ M, j < wx.heap.size := fun wx hb j hj => Nat.lt_of_lt_of_le (hM j hj) hb.size
    have c1 : ∀ wx, Below W1.heap.size W1 wx → Calls Tryz.prog 79 #[.slice (some a) h c, .func (.func 80) #[] #[]] wx fun e w' => ∃ y : FC, e = .returned (.agg #[.slice y.p y.f.path.length y.c, .string y.f.id, .string y.f.title, .string y.f.link, .int .i64 y.f.upd, .slice y.q y.f.ents.length y.d]) ∧ lateG (mxB cmpKF) ((l.take h).map fun x => bareF x.f) = some (bareF y.f) ∧ fcOk (holes w' M) y ∧ FSmU y.f ∧ Below wx.heap.size wx w' := fun wx hb0 => by
      have hb := hB.trans (hb0.mono hB.size)
      have := ih h (by omega) (l.take h) (some a) c wx hl1 hh1 ((rw_take hl h).below hb) (O1 wx hb) (hMx wx hb) (by omega) (by omega) E1 (TabW_below hT hb)
      rwa [hl1] at this
    have c2 : ∀ wx, Below W1.heap.size W1 wx → Calls Tryz.prog 79 #[.slice (some (a.add (h * 6))) (l.length - h) (c - h), .func (.func 80) #[] #[]] wx fun e w' => ∃ y : FC, e = .returned (.agg #[.slice y.p y.f.path.length y.c, .string y.f.id, .string y.f.title, .string y.f.link, .int .i64 y.f.upd, .slice y.q y.f.ents.length y.d]) ∧ lateG (mxB cmpKF) ((l.drop h).map fun x => bareF x.f) = some (bareF y.f) ∧ fcOk (holes w' M) y ∧ FSmU y.f ∧ Below wx.heap.size wx w' := fun wx hb0 => by
      have hb := hB.trans (hb0.mono hB.size)
      have := ih (l.length - h) (by omega) (l.drop h) (some (a.add (h * 6))) (c - h) wx hl2 (by omega) ((rw_drop hl h).below hb) (O2 wx hb) (hMx wx hb) (by omega) (by omega) E2 (TabW_below hT hb)
      rwa [hl2] at this
    have c3 : ∀ (y1 y2 : FC) (wx : World), Below W1.heap.size W1 wx → fcOk (holes wx M) y1 → fcOk (holes wx M) y2 → FSmU y1.f → FSmU y2.f → Calls Tryz.prog 80 #[.agg #[.slice y1.p y1.f.path.length y1.c, .string y1.f.id, .string y1.f.title, .string y1.f.link, .int .i64 y1.f.upd, .slice y1.q y1.f.ents.length y1.d], .agg #[.slice y2.p y2.f.path.length y2.c, .string y2.f.id, .string y2.f.title, .string y2.f.link, .int .i64 y2.f.upd, .slice y2.q y2.f.ents.length y2.d]] wx fun e w' => ∃ p' c', e = .returned (.agg #[.slice p' (ltF y1.f y2.f).path.length c', .string (ltF y1.f y2.f).id, .string (ltF y1.f y2.f).title, .string (ltF y1.f y2.f).link, .int .i64 (ltF y1.f y2.f).upd, .slice none 0 0]) ∧ w'.ownsRow wx.heap.size 9 1 (.slice p' (ltF y1.f y2.f).path.length c') (ltF y1.f y2.f).path.length ((ltF y1.f y2.f).path.map Value.string) ∧ Below wx.heap.size wx w' := fun y1 y2 wx hb0 k1 k2 s1 s2 => mq_later s1 s2 _ _ wx k1.is k2.is (TabW_below hT (hB.trans (hb0.mono hB.size)))
    have hcat : ∀ y1 y2 : FC, lateG (mxB cmpKF) ((l.take h).map fun x => bareF x.f) = some (bareF y1.f) → lateG (mxB cmpKF) ((l.drop h).map fun x => bareF x.f) = some (bareF y2.f) → lateG (mxB cmpKF) (l.map fun x => bareF x.f) = some (bareF (ltF y1.f y2.f)) := fun y1 y2 h1 h2 => by
      have := lateG_app mxF_assoc h1 h2
      rw [← List.map_append, List.take_append_drop] at this
      rw [this, ltF_mx, ← bare_mx]
      rfl
    have HCAT := Lib.hid hcat
    have hlz : (l.length : Int) ≤ 1000000 := by omega
    have hl1z : ¬ (l.length : Int) = 1 := by omega
    have hdz : (l.length : Int) / 2 = (h : Int) := by omega
    have hwh : IntKind.i64.wrap (h : Int) = (h : Int) := wrap_small _ (by omega) (by omega)
    have hhz : (h : Int) ≤ 1000000 := by omega
    have hsl1 : ∀ wx, (Instr.slice 37 (.slice (some a) l.length c) none (some (.int .i64 (h : Int))) none).run Tryz.prog wx = .ok (.slice (some a) h c) wx := fun wx => by
      rw [run_slice_h (P := Tryz.prog) (w := wx) 37 (some a) l.length c Tryz.underlying37 .i64 (h : Int) (by omega) (by omega), nz_size6]
      simp [Result.andThen, sliced, Addr.add]
    have hsl2 : ∀ wx, (Instr.slice 37 (.slice (some a) l.length c) (some (.int .i64 (h : Int))) none none).run Tryz.prog wx = .ok (.slice (some (a.add (h * 6))) (l.length - h) (c - h)) wx := fun wx => by
      rw [run_slice_l (P := Tryz.prog) (w := wx) 37 (some a) l.length c Tryz.underlying37 .i64 (h : Int) (by omega) (by omega), nz_size6]
      simp [Result.andThen, sliced, show ¬ c = h by omega]
    have hhc : (h : Int) ≤ (c : Int) := by omega
    have hhl : (h : Int) ≤ (l.length : Int) := by omega
    have hhp : (0 : Int) ≤ (h : Int) := by omega
    obtain ⟨b, hbe⟩ : ∃ b, a.add (h * 6) = b := ⟨_, rfl⟩
    obtain ⟨k1, hk1⟩ : ∃ k, l.length - h = k := ⟨_, rfl⟩
    obtain ⟨k2, hk2⟩ : ∃ k, c - h = k := ⟨_, rfl⟩
    rw [hbe, hk1, hk2] at hsl2 c2
    clear hbe hk1 hk2
    have HDZ := Lib.hid hdz
    have HWH := Lib.hid hwh
    have HMX := Lib.hid hM
    clear hdz hwh
    have HR := Lib.hid hR
    have HB0 := Lib.hid hB
    have HD := Lib.hid (Below.refl W1.heap.size W1)
    have HSB := Lib.hid (fun (u1 u2 : World) (_ : Below u1.heap.size u1 u2) (_ : True) => trivial)
    clear ih hl hok hM hE hT hn hn0 E1 E2 O1 O2 hMx hl1 hl2 hR hB hh hsz hc h0 hcat
    go_enter Tryz.func79, Tryz.ntmps79
    go_upto_region 1 with fail
    simp only [← hW1]
    clear hW1
    go_upto_region 4 with fail
    have hdz := HDZ.out
    have hwh := HWH.out
    simp only [hdz]
    have SD0 : True := trivial
    replace HD := Lib.hid (HD.out.trans (((Below.refl _ W1).drew).mono HD.out.size))
    refine wp_region_late (S := fun w' => True) (D := [12]) (by kernel_rfl) ?_
    refine anyL_take (i := 0) (oi := { dst := some 15, op := Go.Op.move (Go.Operand.tmp 1), type := 97, pos := "combine.go:52", after := #[], guard := none }) (v := ?_) rfl (by decide) (by kernel_rfl) (by kernel_rfl) (by kernel_rfl) (by kernel_rfl) (fun _ _ _ h => h) (Or.inl ⟨by rfl, ?_⟩) SD0 ?_
    rotate_left
    · intro wz hSz
      skip
      go_simp
      (try with_reducible rfl)
    try simp only [Act.put, List.setIfInBounds_toArray, List.set_cons_zero, List.set_cons_succ]
    refine anyL_take (i := 1) (oi := { dst := some 16, op := Go.Op.move (Go.Operand.tmp 0), type := 37, pos := "combine.go:52", after := #[], guard := none }) (v := ?_) rfl (by decide) (by kernel_rfl) (by kernel_rfl) (by kernel_rfl) (by kernel_rfl) (fun _ _ _ h => h) (Or.inl ⟨by rfl, ?_⟩) SD0 ?_
    rotate_left
    · intro wz hSz
      skip
      go_simp
      (try with_reducible rfl)
    try simp only [Act.put, List.setIfInBounds_toArray, List.set_cons_zero, List.set_cons_succ]
    refine anyL_take (i := 2) (oi := { dst := some 17, op := Go.Op.move (Go.Operand.tmp 5), type := 3, pos := "combine.go:52", after := #[], guard := none }) (v := ?_) rfl (by decide) (by kernel_rfl) (by kernel_rfl) (by kernel_rfl) (by kernel_rfl) (fun _ _ _ h => h) (Or.inl ⟨by rfl, ?_⟩) SD0 ?_
    rotate_left
    · intro wz hSz
      skip
      go_simp
      (try with_reducible rfl)
    try simp only [Act.put, List.setIfInBounds_toArray, List.set_cons_zero, List.set_cons_succ]
    refine anyL_take (i := 3) (oi := { dst := some 18, op := Go.Op.slice 37 (Go.Operand.tmp 16) none (some (Go.Operand.tmp 17)) none, type := 37, pos := "combine.go:52", after := #[{ on := 1, ground := Go.Ground.data }, { on := 2, ground := Go.Ground.data }], guard := none }) (v := ?_) rfl (by decide) (by kernel_rfl) (by kernel_rfl) (by kernel_rfl) (by kernel_rfl) (fun _ _ _ h => h) (Or.inl ⟨by rfl, ?_⟩) SD0 ?_
    rotate_left
    · intro wz hSz
      skip
      go_simp
      (try with_reducible rfl)
    try simp only [Act.put, List.setIfInBounds_toArray, List.set_cons_zero, List.set_cons_succ]
    refine anyL_take (i := 4) (oi := { dst := some 19, op := Go.Op.move (Go.Operand.tmp 1), type := 97, pos := "combine.go:52", after := #[], guard := none }) (v := ?_) rfl (by decide) (by kernel_rfl) (by kernel_rfl) (by kernel_rfl) (by kernel_rfl) (fun _ _ _ h => h) (Or.inl ⟨by rfl, ?_⟩) SD0 ?_
    rotate_left
    · intro wz hSz
      skip
      go_simp
      (try with_reducible rfl)
    try simp only [Act.put, List.setIfInBounds_toArray, List.set_cons_zero, List.set_cons_succ]
    refine anyL_take (i := 6) (oi := { dst := some 21, op := Go.Op.move (Go.Operand.tmp 0), type := 37, pos := "combine.go:52", after := #[], guard := none }) (v := ?_) rfl (by decide) (by kernel_rfl) (by kernel_rfl) (by kernel_rfl) (by kernel_rfl) (fun _ _ _ h => h) (Or.inl ⟨by rfl, ?_⟩) SD0 ?_
    rotate_left
    · intro wz hSz
      skip
      go_simp
      (try with_reducible rfl)
    try simp only [Act.put, List.setIfInBounds_toArray, List.set_cons_zero, List.set_cons_succ]
    refine anyL_take (i := 7) (oi := { dst := some 22, op := Go.Op.move (Go.Operand.tmp 5), type := 3, pos := "combine.go:52", after := #[], guard := none }) (v := ?_) rfl (by decide) (by kernel_rfl) (by kernel_rfl) (by kernel_rfl) (by kernel_rfl) (fun _ _ _ h => h) (Or.inl ⟨by rfl, ?_⟩) SD0 ?_
    rotate_left
    · intro wz hSz
      skip
      go_simp
      (try with_reducible rfl)
    try simp only [Act.put, List.setIfInBounds_toArray, List.set_cons_zero, List.set_cons_succ]
    refine anyL_take (i := 8) (oi := { dst := some 23, op := Go.Op.slice 37 (Go.Operand.tmp 21) (some (Go.Operand.tmp 22)) none none, type := 37, pos := "combine.go:52", after := #[{ on := 6, ground := Go.Ground.data }, { on := 7, ground := Go.Ground.data }], guard := none }) (v := ?_) rfl (by decide) (by kernel_rfl) (by kernel_rfl) (by kernel_rfl) (by kernel_rfl) (fun _ _ _ h => h) (Or.inl ⟨by rfl, ?_⟩) SD0 ?_
    rotate_left
    · intro wz hSz
      skip
      go_simp
      (try with_reducible rfl)
    try simp only [Act.put, List.setIfInBounds_toArray, List.set_cons_zero, List.set_cons_succ]
    refine anyL_take (i := 9) (oi := { dst := some 24, op := Go.Op.move (Go.Operand.tmp 1), type := 97, pos := "combine.go:52", after := #[], guard := none }) (v := ?_) rfl (by decide) (by kernel_rfl) (by kernel_rfl) (by kernel_rfl) (by kernel_rfl) (fun _ _ _ h => h) (Or.inl ⟨by rfl, ?_⟩) SD0 ?_
    rotate_left
    · intro wz hSz
      skip
      go_simp
      (try with_reducible rfl)
    try simp only [Act.put, List.setIfInBounds_toArray, List.set_cons_zero, List.set_cons_succ]
    refine anyL_ready (rs := [5]) (by kernel_rfl) (by simp) ?_
    refine AllL.cons (o := { dst := some 20, op := Go.Op.call { callee := Go.Callee.value (Go.Operand.func 79), args := #[Go.Operand.tmp 18, Go.Operand.tmp 19], argTypes := #[37, 97] }, type := 35, pos := "combine.go:52", after := #[{ on := 3, ground := Go.Ground.data }, { on := 4, ground := Go.Ground.data }], guard := none }) rfl (fun K' hK => ?_) AllL.nil
    rw [if_pos (by rfl)]
    go_simp
    go_at_call 79
    refine (c1 _ HD.out).mono ?_
    rintro e1 w1 ⟨y1, rfl, hl1, hk1, hs1, b1⟩
    have S1 := HSB.out _ _ b1 SD0
    have HB1 := Lib.hid (HD.out.trans (b1.mono HD.out.size))
    refine hK _ _ S1 ?_
    clear hK K' b1 SD0
    try simp only [Act.put, List.setIfInBounds_toArray, List.set_cons_zero, List.set_cons_succ]
    refine anyL_ready (rs := [10]) (by kernel_rfl) (by simp) ?_
    refine AllL.cons (o := { dst := some 25, op := Go.Op.call { callee := Go.Callee.value (Go.Operand.func 79), args := #[Go.Operand.tmp 23, Go.Operand.tmp 24], argTypes := #[37, 97] }, type := 35, pos := "combine.go:52", after := #[{ on := 8, ground := Go.Ground.data }, { on := 9, ground := Go.Ground.data }, { on := 5, ground := Go.Ground.chain }], guard := none }) rfl (fun K' hK => ?_) AllL.nil
    rw [if_pos (by rfl)]
    go_simp
    go_at_call 79
    refine (c2 _ HB1.out).mono ?_
    rintro e2 w2 ⟨y2, rfl, hl2, hk2, hs2, b2⟩
    have S2 := HSB.out _ _ b2 S1
    have HB2 := Lib.hid (HB1.out.trans (b2.mono HB1.out.size))
    replace hk1 := fcOk_mono _ _ _ (Goes.below b2).both hk1
    refine hK _ _ S2 ?_
    clear hK K' b2 S1
    try simp only [Act.put, List.setIfInBounds_toArray, List.set_cons_zero, List.set_cons_succ]
    refine anyL_ready (rs := [11]) (by kernel_rfl) (by simp) ?_
    refine AllL.cons (o := { dst := some 26, op := Go.Op.call { callee := Go.Callee.value (Go.Operand.tmp 15), args := #[Go.Operand.tmp 20, Go.Operand.tmp 25], argTypes := #[35, 35] }, type := 35, pos := "combine.go:52", after := #[{ on := 0, ground := Go.Ground.data }, { on := 5, ground := Go.Ground.data }, { on := 10, ground := Go.Ground.data }, { on := 10, ground := Go.Ground.chain }], guard := none }) rfl (fun K' hK => ?_) AllL.nil
    rw [if_pos (by rfl)]
    go_simp
    go_at_call 80
    refine (c3 y1 y2 _ HB2.out hk1 hk2 hs1 hs2).mono ?_
    rintro e3 w3 ⟨p3, q3, rfl, ho3, b3⟩
    have S3 := HSB.out _ _ b3 S2
    have HB3 := Lib.hid (HB2.out.trans (b3.mono HB2.out.size))
    refine hK _ _ S3 ?_
    clear hK K' b3 S2
    try simp only [Act.put, List.setIfInBounds_toArray, List.set_cons_zero, List.set_cons_succ]
    refine anyL_ready (rs := [12]) (by kernel_rfl) (by simp) ?_
    have hM := HR.out.more HB3.out
    have r0 := hM.cell 0
    have r1 := hM.cell 1
    have r2 := hM.cell 2
    have r3 := hM.cell 3
    have r4 := hM.cell 4
    have r5 := hM.cell 5
    simp only [List.getElem?_toArray, List.getElem?_cons_zero, List.getElem?_cons_succ] at r0 r1 r2 r3 r4 r5
    have t0 := hM.fr 0
    have t1 := hM.fr 1
    have t2 := hM.fr 2
    have t3 := hM.fr 3
    have t4 := hM.fr 4
    have t5 := hM.fr 5
    refine AllL.last (o := { dst := none, op := Go.Op.store 35 (Go.Operand.tmp 4) (Go.Operand.tmp 26), type := 0, pos := "combine.go:52", after := #[{ on := 11, ground := Go.Ground.data }, { on := 11, ground := Go.Ground.chain }, { on := 0, ground := Go.Ground.phase }, { on := 1, ground := Go.Ground.phase }, { on := 2, ground := Go.Ground.phase }, { on := 3, ground := Go.Ground.phase }, { on := 4, ground := Go.Ground.phase }, { on := 5, ground := Go.Ground.phase }, { on := 6, ground := Go.Ground.phase }, { on := 7, ground := Go.Ground.phase }, { on := 8, ground := Go.Ground.phase }, { on := 9, ground := Go.Ground.phase }, { on := 10, ground := Go.Ground.phase }, { on := 11, ground := Go.Ground.phase }], guard := none }) rfl (by decide) (fun K' hK => ?_)
    rw [if_pos (by rfl)]
    go_simp
    refine hK _ _ ?_
    clear hK K'
    try simp only [Act.put, List.setIfInBounds_toArray, List.set_cons_zero, List.set_cons_succ]
    refine anyL_done (by kernel_rfl) ?_ _
    obtain ⟨z, hz⟩ : ∃ z, ltF y1.f y2.f = z := ⟨_, rfl⟩
    have hzc := HCAT.out y1 y2 hl1 hl2
    have hzs := ltF_smallU hs1 hs2
    have hze := ltF_ents y1.f y2.f
    rw [hz] at ho3 hzc hzs hze
    simp only [hz]
    have HF : Hid (∀ W' : World, W' = (((((w3.setCell ⟨w.heap.size, 0, none⟩ (.slice p3 z.path.length q3)).setCell ⟨w.heap.size, 1, none⟩ (.string z.id)).setCell ⟨w.heap.size, 2, none⟩ (.string z.title)).setCell ⟨w.heap.size, 3, none⟩ (.string z.link)).setCell ⟨w.heap.size, 4, none⟩ (.int .i64 z.upd)).setCell ⟨w.heap.size, 5, none⟩ (.slice none 0 0) → fcOk (holes W' M) ⟨z, p3, q3, none, 0⟩ ∧ Below w.heap.size w W') := Lib.hid (fun W' hW' => by
      refine ⟨⟨?_, fun i hi => ?_⟩, ?_⟩
      · have hbv := (show w.heap.size < w2.heap.size from Nat.lt_of_lt_of_le HR.out.lt (HB2.out.size))
        have ho4 := nrow_set (nrow_set (nrow_set (nrow_set (nrow_set (nrow_set ho3 hbv 0 (.slice p3 z.path.length q3)) hbv 1 (.string z.id)) hbv 2 (.string z.title)) hbv 3 (.string z.link)) hbv 4 (.int .i64 z.upd)) hbv 5 (.slice none 0 0)
        rw [← hW', ← strC_row] at ho4
        exact (NewRow.owned strC_len ho4).far fun j hj => Nat.lt_trans (HMX.out j hj) hbv
      · have hi' : i < z.ents.length := hi
        rw [hze] at hi'
        exact absurd hi' (Nat.not_lt_zero _)
      · rw [hW']
        exact mq_belowset6 (HB0.out.trans (HB3.out.mono HB0.out.size)) (Nat.le_refl _) _ _ _ _ _ _)
    have HZC := Lib.hid hzc
    have HZS := Lib.hid hzs
    have HZE := Lib.hid hze
    clear hzc hzs hze ho3 hl1 hl2 hk1 hk2 hs1 hs2 hz
    go_wp2
    exact bodyPost_ret (v := .agg #[.slice p3 z.path.length q3, .string z.id, .string z.title, .string z.link, .int .i64 z.upd, .slice none 0 0]) (by simp [results, Tryz.results79, go_sem, mset_same, r0, r1, r2, r3, r4, r5]) rfl ⟨⟨z, p3, q3, none, 0⟩, by rw [HZE.out]; rfl, HZC.out, (HF.out _ rfl).1, HZS.out, (HF.out _ rfl).2⟩
end Go.Proofs.YtbfalppeifkjdaaGreatDoor
end
section
namespace Go.Proofs.YtbfalppeifkjdaaGreatDoor
open Go.RowKit
structure FcGood (x : FC) : Prop where
  sm : FSmU x.f
  ents : ∀ e ∈ x.f.ents, EOk e
  norm : NormG EntD.id cmpE x.f.ents
set_option maxRecDepth 100000 in
theorem nz_idF (x : FC) (w : World) : Calls Tryz.prog 62 #[fcV x] w fun e w' => e = .returned (.string x.f.id) ∧ Below w.heap.size w w' := by
  unfold fcV
  have hb : ∀ o : Obj, Below w.heap.size w (w.alloc o) := fun o => (Below.refl _ _).alloc (Nat.le_refl _) o
  have HB := Lib.hid hb
  clear hb
  go_enter Tryz.func62, Tryz.ntmps62
  go_wp2
  go_ret
  exact ⟨rfl, HB.out _⟩
set_option maxRecDepth 100000 in
set_option maxHeartbeats 32000000 in
theorem nz_joinF (k : ByteArray) (l : List FC) (p : Option Addr) (c : Nat) (w : World) (M : List Nat) (hl : RwAt 6 fcCells w p l) (h0 : l ≠ []) (hok : ∀ x ∈ l, fcOk (holes w M) x) (hM : ∀ j ∈ M, j < w.heap.size) (hc : l.length ≤ c) (hn : l.length ≤ 1000000) (hE : ∀ x ∈ l, FcGood x) (hk : ∀ x ∈ l, x.f.id = k) (ht : (l.flatMap fun x => x.f.ents).length ≤ 1000000) (hT : TabW w) :
    Calls Tryz.prog 63 #[.slice p l.length c] w fun e w' => ∃ y : FC, e = .returned (.agg #[.slice y.p y.f.path.length y.c, .string y.f.id, .string y.f.title, .string y.f.link, .int .i64 y.f.upd, .slice y.q y.f.ents.length y.d]) ∧ lateG mgF (l.map FC.f) = some y.f ∧ fcOk (holes w' M) y ∧ Below w.heap.size w w' := by
  obtain ⟨i0, hi0, hi1, hi3, hi4⟩ := info_parts nz_infoE
  obtain ⟨b, hb⟩ : ∃ b, b = w.heap.size := ⟨_, rfl⟩
  obtain ⟨W1, hW1⟩ : ∃ W1, W1 = w.alloc (.cells #[.slice none 0 0, .string ⟨#[]⟩, .string ⟨#[]⟩, .string ⟨#[]⟩, .int .i64 0, .slice none 0 0] 35) := ⟨_, rfl⟩
  have hB : Below w.heap.size w W1 := by rw [hW1]; exact (Below.refl _ _).alloc (Nat.le_refl _) _
  have hR : MBlk W1 b #[.slice none 0 0, .string ⟨#[]⟩, .string ⟨#[]⟩, .string ⟨#[]⟩, .int .i64 0, .slice none 0 0] 35 := by rw [hW1, hb]; exact heap_alloc_new w _
  have hz1 : W1.heap.size = b + 1 := by rw [hW1, hb]; simp
  have hnz : (l.length : Int) ≤ 1000000 := by omega
  have HO0 : Hid (OutAt 23 5 entCells OkT (b + 1) [] (.slice none 0 0) [] W1) := Lib.hid (OutAt.nil W1 (Nat.le_of_eq hz1.symm))
  have HL := Lib.hid hl
  have HOK := Lib.hid hok
  have HM := Lib.hid hM
  have HC := Lib.hid hc
  have HE := Lib.hid hE
  have HK := Lib.hid hk
  have HTT := Lib.hid ht
  have HT := Lib.hid hT
  have HBW := Lib.hid hb
  have HB1 := Lib.hid hB
  have HR1 := Lib.hid hR
  have H0 := Lib.hid h0
  have hpre : ∀ i, ((l.take i).flatMap fun x => x.f.ents).length ≤ 1000000 := fun i => by
    refine Nat.le_trans ?_ ht
    have e : l.flatMap (fun x => x.f.ents) = (l.take i).flatMap (fun x => x.f.ents) ++ (l.drop i).flatMap (fun x => x.f.ents) := by rw [← List.flatMap_append, List.take_append_drop]
    rw [e, List.length_append]
    exact Nat.le_add_right _ _
  have HPR := Lib.hid hpre
  clear hl h0 hok hM hc hE hk ht hT hb hB hR hz1 hpre
  go_enter Tryz.func63, Tryz.ntmps63
  go_upto_region 1 with fail
  simp only [← hW1, ← HBW.out]
  clear hW1
  go_wp2
  go_loopw [3, 9] (fun u q wr => ∃ (i : Nat) (v : Value), i ≤ l.length ∧ q = .int .i64 (i : Int) ∧ v = u ∧ OutAt 23 5 entCells OkT (b + 1) [] v ((l.take i).flatMap fun x => x.f.ents) wr ∧ MBlk wr b #[.slice none 0 0, .string ⟨#[]⟩, .string ⟨#[]⟩, .string ⟨#[]⟩, .int .i64 0, .slice none 0 0] 35 ∧ Below w.heap.size w wr) (fun _ q _ => l.length - (RowKit.intOf q).toNat)
  case atStart => exact ⟨0, _, Nat.zero_le _, rfl, rfl, HO0.out, HR1.out, HB1.out⟩
  case round =>
    clear HO0 HR1 HB1
    obtain ⟨i, v, hi, rfl, rfl, hO, hR, hbr⟩ := hrel
    have hzr := hbr.size
    by_cases hlt : i < l.length
    · have hiz : (i : Int) < (l.length : Int) := by omega
      obtain ⟨a, rfl, hc⟩ := HL.out.below hbr i hlt
      have htk : (l.take (i + 1)).flatMap (fun x => x.f.ents) = ((l.take i).flatMap fun x => x.f.ents) ++ l[i].f.ents := by rw [List.take_succ_eq_append_getElem hlt, List.flatMap_append]; simp
      have h1 := HPR.out (i + 1)
      rw [htk, List.length_append] at h1
      obtain ⟨x, hx⟩ : ∃ x, l[i] = x := ⟨_, rfl⟩
      have hxm : x ∈ l := by rw [← hx]; exact List.getElem_mem _
      rw [hx] at hc htk h1
      clear hx
      have a0 := hc 0 _ rfl
      have a1 := hc 1 _ rfl
      have a2 := hc 2 _ rfl
      have a3 := hc 3 _ rfl
      have a4 := hc 4 _ rfl
      have a5 := hc 5 _ rfl
      clear hc
      obtain ⟨aa, haa⟩ : ∃ aa, a.add (i * 6) = aa := ⟨_, rfl⟩
      rw [haa] at a0 a1 a2 a3 a4 a5
      simp only [Addr.add, Nat.reduceEqDiff, ↓reduceIte] at a0 a1 a2 a3 a4 a5
      obtain ⟨W2, hW2⟩ : ∃ W2, W2 = wr.alloc (.cells #[.slice x.p x.f.path.length x.c, .string x.f.id, .string x.f.title, .string x.f.link, .int .i64 x.f.upd, .slice x.q x.f.ents.length x.d] 35) := ⟨_, rfl⟩
      have hb2 : Below wr.heap.size wr W2 := by rw [hW2]; exact (Below.refl _ _).alloc (Nat.le_refl _) _
      have e5 : W2.cell? ⟨wr.heap.size, 5, none⟩ = some (.slice x.q x.f.ents.length x.d) := by
        rw [hW2]
        exact cell_of_row _ _ 5 _ _ _ (heap_alloc_new wr _)
      obtain ⟨xs, hxs⟩ : ∃ xs, (l.take i).flatMap (fun x => x.f.ents) = xs := ⟨_, rfl⟩
      rw [hxs] at hO htk h1
      have hO2 := hO.more okT_mono hb2
      have hR2 := hR.more hb2
      have hB2 := hbr.trans (hb2.mono hzr)
      have hsrc : RwAt 5 entCells W2 x.q x.f.ents := (((HOK.out x hxm).2.rw).mono (fun a v hc => (holes_cell hc).1)).below hB2
      have hrow := hO2.row
      have hcl : (rowC entCells x.f.ents).length = x.f.ents.length * 5 := rowC_len 5 entCells_len x.f.ents
      have h1c := rowC_cell ents_one1 x.f.ents
      have hnews : ∀ j u, (rowC entCells x.f.ents)[j]? = some u → ∃ d, x.q = some d ∧ W2.cell? (d.add j) = some u := rw_news entCells_len hsrc
      have hsz := hO2.size
      have HO2 := Lib.hid hO2
      have HR2 := Lib.hid hR2
      have HB2 := Lib.hid hB2
      have HTK := Lib.hid htk
      clear hO hR hbr hO2 hR2 hB2 htk hsrc hxm hxs hzr
      go_upto_region 5 with fail
      simp only [← hW2]
      clear hW2 hb2 haa a0 a1 a2 a3 a4 a5
      go_wp2_with (at_builtin; refine wpList_append_any _ rfl (.tmp 13) (.tmp 15) 33 rfl (b + 1) 23 i0 (.agg #[.string ⟨#[]⟩, .string ⟨#[]⟩, .string ⟨#[]⟩, .string ⟨#[]⟩, .int .i64 0]) 5 72 Tryz.underlying33 hi0 hi1 hi3 hi4 rfl (by decide) v xs.length (rowC entCells xs) rfl hrow x.q x.f.ents.length x.d (rowC entCells x.f.ents) rfl hcl hnews h1c (by unfold maxLen; omega) (by omega) hsz ?_; intro v2 w2 hown2 hgr2)
      have hvb : ∀ j, v.ownBlock = some j → b + 1 ≤ j := fun j hj => (HO2.out.row.lt j hj).1
      have HN : Hid (OutAt 23 5 entCells OkT (b + 1) [] v2 (xs ++ x.f.ents) w2) := Lib.hid ⟨by rw [List.length_append, rowC_app]; exact hown2, fun _ _ => trivial, Nat.le_trans HO2.out.size hgr2.size⟩
      have HR3 : Hid (MBlk w2 b #[.slice none 0 0, .string ⟨#[]⟩, .string ⟨#[]⟩, .string ⟨#[]⟩, .int .i64 0, .slice none 0 0] 35) := Lib.hid ((hgr2.block b HR2.out.lt fun e => by have := hvb b e.symm; omega).trans HR2.out)
      have HB3 := Lib.hid (HO2.out.below HB2.out (by have := HBW.out; omega) hgr2)
      clear hown2 hgr2 hnews h1c hcl hrow hvb e5
      go_wp2
      go_roundw
      case rel => exact ⟨i + 1, v2, by omega, by go_num, rfl, by rw [HTK.out]; exact HN.out, HR3.out, HB3.out⟩
      case measure => simp [RowKit.intOf]; omega
    · have hil : i = l.length := by omega
      subst hil
      have hiz : ¬ (l.length : Int) < (l.length : Int) := by omega
      rw [List.take_length] at hO
      have hMb : ∀ j ∈ b :: M, j < wr.heap.size := fun j hj => by
        rcases List.mem_cons.1 hj with rfl | hj
        · exact hR.lt
        · have := HM.out j hj
          omega
      have hok2 : ∀ x ∈ l, fcOk (holes wr (b :: M)) x := fun x hx => fcOk_mono _ _ _ (Goes.both (fun j hj hn => ⟨fun e => by
          rcases List.mem_cons.1 e with e | e
          · have := HBW.out; omega
          · exact hn e, hbr.block j hj⟩)) (HOK.out x hx)
      have cL := nz_latestF (b :: M) l.length l p c wr rfl (List.length_pos_iff.2 H0.out) (HL.out.below hbr) hok2 hMb HC.out (by omega) (fun x hx => (HE.out x hx).sm) (TabW_below HT.out hbr)
      obtain ⟨es, hes⟩ : ∃ es, (l.flatMap fun x => x.f.ents) = es := ⟨_, rfl⟩
      have hel : es.length ≤ 1000000 := by rw [← hes]; exact HTT.out
      have heg : ∀ e ∈ es, EOk e := fun e he => by
        rw [← hes] at he
        obtain ⟨x, hx, hxe⟩ := List.mem_flatMap.1 he
        exact (HE.out x hx).ents e hxe
      rw [hes] at hO
      have HES := Lib.hid hes
      have HEG := Lib.hid heg
      have HEL := Lib.hid hel
      have HO := Lib.hid hO
      have HR := Lib.hid hR
      have HB := Lib.hid hbr
      clear hes heg hO hR hbr hMb hok2 hel
      go_wp2_with fail
      refine cL.mono ?_
      rintro e w5 ⟨y1, rfl, hy1, hk1, hs1, b5⟩
      obtain ⟨W6, hW6⟩ : ∃ W6, W6 = w5.alloc (.cells #[.slice y1.p y1.f.path.length y1.c, .string y1.f.id, .string y1.f.title, .string y1.f.link, .int .i64 y1.f.upd, .slice y1.q y1.f.ents.length y1.d] 35) := ⟨_, rfl⟩
      obtain ⟨bx, hbx⟩ : ∃ n, n = w5.heap.size := ⟨_, rfl⟩
      have b56 : Below w5.heap.size w5 W6 := by rw [hW6]; exact (Below.refl _ _).alloc (Nat.le_refl _) _
      have b06 := b5.trans (b56.mono b5.size)
      have hX6 : MBlk W6 bx #[.slice y1.p y1.f.path.length y1.c, .string y1.f.id, .string y1.f.title, .string y1.f.link, .int .i64 y1.f.upd, .slice y1.q y1.f.ents.length y1.d] 35 := by rw [hW6, hbx]; exact heap_alloc_new _ _
      have hR6 := HR.out.more b06
      have hO6 := HO.out.more okT_mono b06
      have hB6 := HB.out.trans (b06.mono HB.out.size)
      obtain ⟨p6, c6, rfl⟩ := jrow_val hO6.row
      have cE := nz_combineEntries es p6 c6 W6 (ents_rw (RwAt.of_owns entCells_len hO6.row rfl)) HEL.out HEG.out (TabW_below HT.out hB6)
      have hlj := late_join (k := k) (l := l.map FC.f) (L := y1.f) (fun f hf => by
          obtain ⟨x, hx, rfl⟩ := List.mem_map.1 hf
          exact HK.out x hx) (fun f hf => by
          obtain ⟨x, hx, rfl⟩ := List.mem_map.1 hf
          exact (HE.out x hx).norm) (by rw [List.map_map]; exact hy1)
      have hbz : bx + 1 ≤ W6.heap.size := hX6.lt
      have hbb : b < bx := by have := HR.out.lt; have := b5.size; omega
      have HX6 := Lib.hid hX6
      have HR6 := Lib.hid hR6
      have HB6 := Lib.hid hB6
      have HLJ := Lib.hid hlj
      have HK1 := Lib.hid hk1
      have HB56 := Lib.hid b56
      have HBX := Lib.hid hbx
      clear hX6 hR6 hB6 hlj hk1 hs1 hy1 b5 b56 b06 hO6 HO HR HB cL hbx
      go_upto_region 8 with fail
      simp only [← hW6, ← HBX.out]
      clear hW6
      go_wp2_with fail
      refine cE.mono ?_
      rintro e w7 ⟨v7, rfl, hN7, b7⟩
      obtain ⟨ez, hez⟩ : ∃ z, addsE [] es = z := ⟨_, rfl⟩
      rw [hez] at hN7
      obtain ⟨p7, c7, rfl, -, -⟩ := id hN7
      have hX7 := HX6.out.more b7
      have hR7 := HR6.out.more b7
      have hB7 := HB6.out.trans (b7.mono HB6.out.size)
      obtain ⟨W8, hW8⟩ : ∃ W8, W8 = w7.setCell ⟨bx, 5, none⟩ (.slice p7 ez.length c7) := ⟨_, rfl⟩
      have hX8 : MBlk W8 bx #[.slice y1.p y1.f.path.length y1.c, .string y1.f.id, .string y1.f.title, .string y1.f.link, .int .i64 y1.f.upd, .slice p7 ez.length c7] 35 := by rw [hW8]; exact nz_set1 hX7 5 _
      have hR8 : MBlk W8 b #[.slice none 0 0, .string ⟨#[]⟩, .string ⟨#[]⟩, .string ⟨#[]⟩, .int .i64 0, .slice none 0 0] 35 := by rw [hW8]; exact nz_far1 hR7 (by omega) 5 _
      have hwb : w.heap.size ≤ b := by have := HBW.out; omega
      have hB8 : Below w.heap.size w W8 := by rw [hW8]; exact hB7.setCell (p := ⟨bx, 5, none⟩) (show w.heap.size ≤ bx by omega) _
      have hN8 : NewRow 5 entCells W6.heap.size (.slice p7 ez.length c7) ez W8 := by rw [hW8]; exact nz_newset hN7 (by omega) 5 _
      have z0 := hX7.cell 0
      have z1 := hX7.cell 1
      have z2 := hX7.cell 2
      have z3 := hX7.cell 3
      have z4 := hX7.cell 4
      have z5 := hX7.cell 5
      simp only [List.getElem?_toArray, List.getElem?_cons_zero, List.getElem?_cons_succ] at z0 z1 z2 z3 z4 z5
      have f0 := hX7.fr 0
      have f1 := hX7.fr 1
      have f2 := hX7.fr 2
      have f3 := hX7.fr 3
      have f4 := hX7.fr 4
      have f5 := hX7.fr 5
      have r0 := hR8.cell 0
      have r1 := hR8.cell 1
      have r2 := hR8.cell 2
      have r3 := hR8.cell 3
      have r4 := hR8.cell 4
      have r5 := hR8.cell 5
      simp only [List.getElem?_toArray, List.getElem?_cons_zero, List.getElem?_cons_succ] at r0 r1 r2 r3 r4 r5
      have g0 := hR8.fr 0
      have g1 := hR8.fr 1
      have g2 := hR8.fr 2
      have g3 := hR8.fr 3
      have g4 := hR8.fr 4
      have g5 := hR8.fr 5
      have x0 := hX8.cell 0
      have x1 := hX8.cell 1
      have x2 := hX8.cell 2
      have x3 := hX8.cell 3
      have x4 := hX8.cell 4
      have x5 := hX8.cell 5
      simp only [List.getElem?_toArray, List.getElem?_cons_zero, List.getElem?_cons_succ] at x0 x1 x2 x3 x4 x5
      have u0 := hX8.fr 0
      have u1 := hX8.fr 1
      have u2 := hX8.fr 2
      have u3 := hX8.fr 3
      have u4 := hX8.fr 4
      have u5 := hX8.fr 5
      have hj : joinF y1.f (l.map FC.f) = { y1.f with ents := ez } := by
        unfold joinF
        rw [← hez, ← HES.out, List.flatMap_map]
      have hF : Hid (∀ W' : World, W' = (((((W8.setCell ⟨b, 0, none⟩ (.slice y1.p y1.f.path.length y1.c)).setCell ⟨b, 1, none⟩ (.string y1.f.id)).setCell ⟨b, 2, none⟩ (.string y1.f.title)).setCell ⟨b, 3, none⟩ (.string y1.f.link)).setCell ⟨b, 4, none⟩ (.int .i64 y1.f.upd)).setCell ⟨b, 5, none⟩ (.slice p7 ez.length c7) → fcOk (holes W' M) ⟨{ y1.f with ents := ez }, y1.p, y1.c, p7, c7⟩ ∧ Below w.heap.size w W') := Lib.hid (fun W' hW' => by
        have hbv : b < W6.heap.size := by omega
        have hN14 := nz_newset (nz_newset (nz_newset (nz_newset (nz_newset (nz_newset hN8 hbv 0 (.slice y1.p y1.f.path.length y1.c)) hbv 1 (.string y1.f.id)) hbv 2 (.string y1.f.title)) hbv 3 (.string y1.f.link)) hbv 4 (.int .i64 y1.f.upd)) hbv 5 (.slice p7 ez.length c7)
        rw [← hW'] at hN14
        have hMw : ∀ j ∈ M, j < W6.heap.size := fun j hj => Nat.lt_of_lt_of_le (HM.out j hj) HB6.out.size
        refine ⟨⟨HK1.out.1.mono (Goes.both fun j hj hn => ⟨fun e => hn (List.mem_cons_of_mem _ e), ?_⟩), hN14.far hMw⟩, ?_⟩
        · have hjb : j ≠ b := fun e => hn (by rw [e]; exact List.mem_cons_self)
          have hjx : j ≠ bx := by have := HBX.out; omega
          rw [hW', Below.heap_setCell _ _ _ _ hjb, Below.heap_setCell _ _ _ _ hjb, Below.heap_setCell _ _ _ _ hjb, Below.heap_setCell _ _ _ _ hjb, Below.heap_setCell _ _ _ _ hjb, Below.heap_setCell _ _ _ _ hjb, hW8, Below.heap_setCell _ _ _ _ hjx]
          exact (b7.block j (Nat.lt_of_lt_of_le hj HB56.out.size)).trans (HB56.out.block j hj)
        · rw [hW']
          exact mq_belowset6 hB8 hwb _ _ _ _ _ _)
      have HLJ2 := Lib.hid (HLJ.out.trans (congrArg some hj))
      clear b7 cE hN7 hX7 hR7 hB7 hX8 hR8 hB8 hN8 hwb hj hez HLJ
      go_upto_region 9 with fail
      simp only [← hW8]
      clear hW8 z0 z1 z2 z3 z4 z5 f0 f1 f2 f3 f4 f5
      go_wp2
      exact bodyPost_ret (v := .agg #[.slice y1.p y1.f.path.length y1.c, .string y1.f.id, .string y1.f.title, .string y1.f.link, .int .i64 y1.f.upd, .slice p7 ez.length c7]) (by simp [results, Tryz.results63, go_sem, mset_same, r0, r1, r2, r3, r4, r5]) rfl ⟨⟨{ y1.f with ents := ez }, y1.p, y1.c, p7, c7⟩, rfl, HLJ2.out, (hF.out _ rfl).1, (hF.out _ rfl).2⟩
structure FcIn (W : World) (B : List Nat) (x : FC) : Prop where
  ok : fcOk (holes W B) x
  len : x.f.path.length ≤ 1000000
structure FcSub (W : World) (B : List Nat) where
  x : FC
  isIn : FcIn W B x
theorem sub_map {W : World} {B : List Nat} : ∀ l : List FC, (∀ x ∈ l, FcIn W B x) → ∃ m : List (FcSub W B), m.map FcSub.x = l
  | [], _ => ⟨[], rfl⟩
  | x :: r, h => by
    obtain ⟨m, hm⟩ := sub_map r fun y hy => h y (List.mem_cons_of_mem _ hy)
    exact ⟨⟨x, h x List.mem_cons_self⟩ :: m, by rw [List.map_cons, hm]⟩
set_option maxRecDepth 100000 in
set_option maxHeartbeats 4000000 in
theorem nz_sortF (outs : List FC) (v : Value) (w : World) (B : Nat) (L : List Nat) (ho : w.ownsRow B 35 6 v outs.length (rowC fcCells outs)) (hn : outs.length ≤ 1000000) (hok : ∀ x ∈ outs, fcOk (holes w (v.ownBlock.toList ++ L)) x) (hp : ∀ x ∈ outs, x.f.path.length ≤ 1000000) :
    Calls Tryz.prog 78 #[v, .func (.func 64) #[] #[]] w fun e w' => e = .returned (.tuple #[]) ∧ ∃ os', os'.Perm outs ∧ (os'.Pairwise fun a b => ¬ cmpF b.f a.f < 0) ∧ NewRow 6 fcCells B v os' w' ∧ w.grownBy w' v.ownBlock := by
  by_cases h0 : outs = []
  · subst h0
    have hv : ∃ p cap, v = .slice p 0 cap := by
      rcases ho.2 with ⟨rfl, -⟩ | ⟨g, cap, -, rfl, -⟩
      · exact ⟨_, _, rfl⟩
      · exact ⟨_, _, rfl⟩
    obtain ⟨p, cap, rfl⟩ := hv
    have hcon := Go.Proofs.AnyF.slices_SortFunc_none Tryz.sortF p cap (.func (.func 64) #[] #[]) w
    refine Calls.mono (show Calls Tryz.prog 78 _ _ _ from hcon) ?_
    rintro e w' ⟨rfl, rfl⟩
    exact ⟨rfl, [], List.Perm.refl _, List.Pairwise.nil, NewRow.owned fcCells_len ho, ⟨rfl, rfl, rfl, Nat.le_refl _, fun _ _ _ => rfl⟩⟩
  · have hpos : 0 < outs.length := List.length_pos_iff.2 h0
    obtain ⟨g, cap, rfl, hgB, hgl⟩ := ho.form hpos
    have hcap : outs.length ≤ cap := by
      rcases ho.2 with ⟨e, -⟩ | ⟨g', cap', cur, e, -, -, hc, -⟩
      · cases e
      · cases e; exact hc
    obtain ⟨m, rfl⟩ := sub_map (W := w) (B := [g] ++ L) outs (fun x hx => ⟨hok x hx, hp x hx⟩)
    have hml : (m.map FcSub.x).length = m.length := List.length_map ..
    have hrc : ∀ k : List (FcSub w ([g] ++ L)), rowC fcCells (k.map FcSub.x) = rowC (fun x : FcSub w ([g] ++ L) => fcCells x.x) k := fun k => by unfold rowC; rw [List.flatMap_map]
    rw [hml] at ho hpos hcap hn ⊢
    rw [hrc] at ho
    haveI : Inhabited (FcSub w ([g] ++ L)) := ⟨m[0]⟩
    have eg : ∀ args w, (callFunc 64 args).run Tryz.prog w = .ok (.enter 64 args) w := enters_of Tryz.func64 (by kernel_rfl) rfl
    have hlen : ∀ x : FcSub w ([g] ++ L), (fcCells x.x).length = 6 := fun _ => rfl
    have hH := holds_owns hlen ho
    have hcmp : Go.Proofs.CmpLays Tryz.prog 64 #[] (fun x : FcSub w ([g] ++ L) => fcCells x.x) 6 (fun x y => cmpF x.x.f y.x.f) g 0 m.toArray.size w := fun k os dk hd x y => by
      have hG : Goes w ([g] ++ L) (Go.Proofs.sortWorldK (fun x : FcSub w ([g] ++ L) => fcCells x.x) 6 w g 0 k dk os) L := fun j hj hn => ⟨fun e => hn (List.mem_append_right _ e), sorted_far j hj fun e => hn (by rw [e]; simp)⟩
      exact nz_cmpF x.x.f y.x.f (fcV x.x) (fcV y.x) _ (fcOk_mono _ _ _ hG.both x.isIn.ok).is (fcOk_mono _ _ _ hG.both y.isIn.ok).is (by have := x.isIn.len; omega) (by have := y.isIn.len; omega)
    have hC3 : Cmp3 (fun x y : FcSub w ([g] ++ L) => cmpF x.x.f y.x.f) := cmpF_ok.on (fun x : FcSub w ([g] ++ L) => x.x.f)
    have hcon := Go.Proofs.AnyQ.slices_SortFunc Tryz.sortF 6 (fun w => by kernel_rfl) (fun w => by kernel_rfl) (fun x : FcSub w ([g] ++ L) => fcCells x.x) hlen (fun x => fc_one x.x) (fun x y => cmpF x.x.f y.x.f) (cmp3_swo hC3) 64 #[] g 0 cap m.toArray w eg hcmp hH hgl (by show m.length < _; omega)
    refine Calls.mono (show Calls Tryz.prog 78 #[.slice (some ⟨g, 0, none⟩) m.length cap, .func (.func 64) #[] #[]] w _ from hcon) ?_
    rintro e w' ⟨rfl, d', n, os, hp, hs, rfl⟩
    have hsz : d'.size = m.length := hp.1
    refine ⟨rfl, d'.toList.map FcSub.x, (sort_perm hp).map _, List.pairwise_map.2 (sort_sorted hp.1 hs), ?_, sorted_grown⟩
    have hnew := sorted_new (os := os) (n := n) hlen hH hp.1 hgl hgB (show m.toArray.size ≤ cap from hcap)
    obtain ⟨p', cap', e', hc', hx'⟩ := hnew
    have hdl : d'.toList.length = m.length := by rw [Array.length_toList]; exact hsz
    rw [hdl] at e' hc'
    cases e'
    refine ⟨_, cap, by rw [List.length_map, hdl], by rw [List.length_map, hdl]; exact hcap, fun hne => ?_⟩
    obtain ⟨g', hg', h1, h2, h3⟩ := hx' (fun e => hne (by rw [e]; rfl))
    refine ⟨g', hg', h1, h2, fun i hi c u hu => ?_⟩
    rw [List.length_map] at hi
    rw [List.getElem_map] at hu
    exact h3 i hi c u hu
end Go.Proofs.YtbfalppeifkjdaaGreatDoor
end
