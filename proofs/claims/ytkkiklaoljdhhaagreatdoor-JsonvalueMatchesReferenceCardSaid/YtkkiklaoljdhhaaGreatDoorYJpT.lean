/- Packed from the texts JpT. -/
import Derived.Test.YtkkiklaoljdhhaaGreatDoorYJpH
import Derived.Test.YtkkiklaoljdhhaaGreatDoorYkM
import Derived.Test.YtkkiklaoljdhhaaGreatDoorYkN
import Derived.Deep.RegionHeld3
section
namespace Go.Proofs.YtkkiklaoljdhhaaGreatDoor
open Go.RowKit
mutual
def stripV : ValD → ValD
  | .mk k b n s items mems _ => .mk k b n s (stripVs items) (stripMs mems) 0
def stripVs : List ValD → List ValD
  | [] => []
  | k :: r => stripV k :: stripVs r
def stripMs : List MemD → List MemD
  | [] => []
  | k :: r => stripM k :: stripMs r
def stripM : MemD → MemD
  | .mk key v _ => .mk key (stripV v) 0
end
theorem stripV_eq (n : ValD) : stripV n = .mk n.kind n.b n.n n.s (stripVs n.items) (stripMs n.mems) 0 := by cases n; rw [stripV]; rfl
theorem stripM_eq (m : MemD) : stripM m = .mk m.key (stripV m.v) 0 := by cases m; rw [stripM]; rfl
theorem stripVs_map : ∀ l : List ValD, stripVs l = l.map stripV
  | [] => rfl
  | k :: r => by rw [stripVs, stripVs_map r]; rfl
theorem stripMs_map : ∀ l : List MemD, stripMs l = l.map stripM
  | [] => rfl
  | k :: r => by rw [stripMs, stripMs_map r]; rfl
theorem VRow.push {wr w1 W : World} {B n1 g : Nat} {own : Option Nat} {st : List ValD} {xs : List Value} {v : ValD} {v0 v1 v2 v3 v4 v5 v6 : Value} (hr : VRow wr (lowx B own) st xs) (hx : ValIs (sans w1 (low n1)) v (.agg #[v0, v1, v2, v3, v4, v5, v6])) (hB : B ≤ n1) (hn : wr.heap.size ≤ n1) (hz : wr.heap.size ≤ w1.heap.size) (hol : ∀ k, own = some k → k < wr.heap.size) (hat : own = some g ∨ w1.heap.size ≤ g)
    (hold : ∀ k, k < wr.heap.size → B ≤ k → w1.heap[k]? = wr.heap[k]?) (hW : ∀ k, k < w1.heap.size → B ≤ k → own ≠ some k → W.heap[k]? = w1.heap[k]?) : VRow W (lowx B (some g)) (st ++ [v]) (xs ++ [v0, v1, v2, v3, v4, v5, v6]) := by
  refine VRow.snoc (hx.go (fun k hk hno => ?_)) st xs (VRow.go (fun k hk hno => ?_) st xs hr)
  · have hkn := low_no hno
    have ho : own ≠ some k := fun e => by have := hol k e; omega
    exact ⟨lowx_ok (by omega) (fun e => by injection e with e; rcases hat with x | x; exact ho (x.trans (congrArg some e)); omega), hW k hk (by omega) ho⟩
  · obtain ⟨h1, h2⟩ := lowx_no hno
    exact ⟨lowx_ok h1 (fun e => by injection e with e; rcases hat with x | x; exact h2 (x.trans (congrArg some e)); omega), (hW k (by omega) h1 h2).trans (hold k hk h1)⟩
theorem MRow.push {wr w1 W : World} {B n1 g : Nat} {own : Option Nat} {st : List MemD} {xs : List Value} {m : MemD} {v0 v1 v2 v3 v4 v5 v6 : Value} (hr : MRow wr (lowx B own) st xs) (hx : ValIs (sans w1 (low n1)) m.v (.agg #[v0, v1, v2, v3, v4, v5, v6])) (hB : B ≤ n1) (hn : wr.heap.size ≤ n1) (hz : wr.heap.size ≤ w1.heap.size) (hol : ∀ k, own = some k → k < wr.heap.size) (hat : own = some g ∨ w1.heap.size ≤ g)
    (hold : ∀ k, k < wr.heap.size → B ≤ k → w1.heap[k]? = wr.heap[k]?) (hW : ∀ k, k < w1.heap.size → B ≤ k → own ≠ some k → W.heap[k]? = w1.heap[k]?) : MRow W (lowx B (some g)) (st ++ [m]) (xs ++ [.string m.key, v0, v1, v2, v3, v4, v5, v6, .int .i64 m.at']) := by
  refine MRow.snoc (hx.go (fun k hk hno => ?_)) st xs (MRow.go (fun k hk hno => ?_) st xs hr)
  · have hkn := low_no hno
    have ho : own ≠ some k := fun e => by have := hol k e; omega
    exact ⟨lowx_ok (by omega) (fun e => by injection e with e; rcases hat with x | x; exact ho (x.trans (congrArg some e)); omega), hW k hk (by omega) ho⟩
  · obtain ⟨h1, h2⟩ := lowx_no hno
    exact ⟨lowx_ok h1 (fun e => by injection e with e; rcases hat with x | x; exact h2 (x.trans (congrArg some e)); omega), (hW k (by omega) h1 h2).trans (hold k hk h1)⟩
theorem jinfo_mem : (Tryz.prog.info? 44).map (fun i => (i.zero, i.size, i.bytes)) = some (some (.agg #[.string ⟨#[]⟩, .int .i64 0, .bool false, .int .i64 0, .string ⟨#[]⟩, .slice none 0 0, .slice none 0 0, .int .i64 0, .int .i64 0]), 9, 120) := by kernel_rfl
def StrAt (n : ValD) : Prop := ∀ (v : Value) (w : World), ValIs w n v → Calls Tryz.prog 19 #[v] w fun e w' => (∃ x, e = .returned x ∧ ValIs (sans w' (low w.heap.size)) (stripV n) x) ∧ Below w.heap.size w w'
set_option maxRecDepth 100000 in
set_option maxHeartbeats 64000000 in
theorem jp_Strip : ∀ (f : Nat) (n : ValD), n.cnt ≤ f → n.cnt ≤ 1000000 → StrAt n
  | 0, n, hf, _ => absurd hf (by have := vcnt_eq n; omega)
  | f + 1, n, hf, hc => by
    intro v w hn
    have hS1 : ∀ k ∈ n.items, StrAt k := fun k hk => jp_Strip f k (by have := vcnt_item n k hk; omega) (by have := vcnt_item n k hk; omega)
    have hS2 : ∀ m ∈ n.mems, StrAt m.v := fun m hm => jp_Strip f m.v (by have := vcnt_mem n m hm; omega) (by have := vcnt_mem n m hm; omega)
    have hil : n.items.length ≤ 1000000 := by have := vcnts_len n.items; have := vcnt_eq n; omega
    have hml : n.mems.length ≤ 1000000 := by have := mcnts_len n.mems; have := vcnt_eq n; omega
    obtain ⟨i0, hi0, hi1, hi3, hi4⟩ := info_parts jinfo_value
    obtain ⟨j0, hj0, hj1, hj3, hj4⟩ := info_parts jinfo_mem
    obtain ⟨p, c, q, d, rfl, hI, hM⟩ := (val_is w n v).1 hn
    rw [stripV_eq, stripVs_map, stripMs_map]
    clear hn hf hc
    generalize n.kind = kd at *
    generalize n.b = bb at *
    generalize n.n = nn at *
    generalize n.s = ss at *
    generalize n.at' = aa at *
    generalize n.items = items at *
    generalize n.mems = mems at *
    obtain ⟨W, hW⟩ : ∃ W, W = ((w.alloc (.cells #[.int .i64 kd, .bool bb, .int .i64 nn, .string ss, .slice p items.length c, .slice q mems.length d, .int .i64 aa] 26)).alloc (.cells #[.int .i64 0, .bool false, .int .i64 0, .string ⟨#[]⟩, .slice none 0 0, .slice none 0 0, .int .i64 0] 26)) := ⟨_, rfl⟩
    have hB0 : Bj W w.heap.size #[.int .i64 kd, .bool bb, .int .i64 nn, .string ss, .slice p items.length c, .slice q mems.length d, .int .i64 aa] 26 := by rw [hW]; exact Bj.first w _ _ _
    have hB1 : Bj W (w.heap.size + 1) #[.int .i64 0, .bool false, .int .i64 0, .string ⟨#[]⟩, .slice none 0 0, .slice none 0 0, .int .i64 0] 26 := by rw [hW]; exact Bj.second w _ _ _
    have hbw : Below w.heap.size w W := by rw [hW]; exact ((Below.refl _ _).alloc (Nat.le_refl _) _).alloc (by simp) _
    have hzw : W.heap.size = w.heap.size + 2 := by rw [hW]; simp
    have g4 : W.cell? ⟨w.heap.size, 4, none⟩ = some (.slice p items.length c) := hB0.cell 4
    have HB0x := Lib.hid hB0
    have HB1x := Lib.hid hB1
    have HBW := Lib.hid hbw
    have HIW := Lib.hid (hI.below hbw)
    have HMW := Lib.hid (hM.below hbw)
    have HSI := Lib.hid hS1
    have HSM := Lib.hid hS2
    have hmlz : (mems.length : Int) ≤ 1000000 := by omega
    have hilz : (items.length : Int) ≤ 1000000 := by omega
    clear hB0 hB1 hbw hI hM hS1 hS2
    go_enter Tryz.func19, Tryz.ntmps19
    go_upto_region 1 with fail
    simp only [← hW]
    clear hW
    go_wp2
    go_loopw [3, 12] (fun x qv wr => ∃ (i : Nat) (A0 : Option Addr) (C0 : Nat) (xs : List Value), i ≤ items.length ∧ qv = .int .i64 i ∧ x = .slice A0 i C0 ∧ wr.ownsRow (w.heap.size + 2) 26 7 (.slice A0 i C0) i xs ∧ VRow wr (lowx (w.heap.size + 2) (Value.slice A0 i C0).ownBlock) ((items.take i).map stripV) xs ∧ Below (w.heap.size + 2) W wr) (fun _ qv _ => items.length - (intOf qv).toNat)
    case atStart => exact ⟨0, none, 0, [], Nat.zero_le _, rfl, rfl, World.ownsRow_nil _ _ _ _, by rw [List.take_zero, List.map_nil, VRow], Below.refl _ _⟩
    case round =>
      obtain ⟨i, A0, C0, xs, hi, rfl, rfl, ho, hr, hbr⟩ := hrel
      have hzr := hbr.size
      by_cases hlt : i < items.length
      · have hiz : (i : Int) < (items.length : Int) := by omega
        obtain ⟨a, p2, c2, q2, d2, rfl, ⟨a0, a1, a2, a3, a4, a5, a6⟩, hk⟩ := (HIW.out.below (hbr.mono (by omega))).cells i hlt
        have hcs : (items.take (i + 1)).map stripV = (items.take i).map stripV ++ [stripV items[i]] := by rw [List.take_succ_eq_append_getElem hlt, List.map_append]; rfl
        obtain ⟨k, hkk⟩ : ∃ k, items[i] = k := ⟨_, rfl⟩
        have hmem : k ∈ items := by rw [← hkk]; exact List.getElem_mem _
        rw [hkk] at hk a0 a1 a2 a3 a4 a5 a6 hcs
        obtain ⟨Wt, hWt⟩ : ∃ Wt, Wt = wr.alloc (.cells #[.int .i64 k.kind, .bool k.b, .int .i64 k.n, .string k.s, .slice p2 k.items.length c2, .slice q2 k.mems.length d2, .int .i64 k.at'] 26) := ⟨_, rfl⟩
        have Bt : Below wr.heap.size wr Wt := by rw [hWt]; exact (Below.refl _ _).alloc (Nat.le_refl _) _
        have hzt : Wt.heap.size = wr.heap.size + 1 := by rw [hWt]; simp
        have c1 := HSI.out k hmem _ Wt (hk.below Bt)
        have c1 := fun (wx : World) (hx : wx = Wt) => (show Calls Tryz.prog 19 _ wx _ from hx ▸ c1)
        obtain ⟨cc, hcc⟩ : ∃ c, a.add (i * 7) = c := ⟨_, rfl⟩
        rw [hcc] at a0 a1 a2 a3 a4 a5 a6
        simp only [Addr.add, Nat.reduceEqDiff, ↓reduceIte] at a1 a2 a3 a4 a5 a6
        have HCS := Lib.hid hcs
        have HOr := Lib.hid ho
        have HRr := Lib.hid hr
        have HBr := Lib.hid hbr
        have HBt := Lib.hid Bt
        clear hk hmem hkk hcs ho hr hbr Bt
        go_wp2_with fail
        refine (c1 _ hWt.symm).mono ?_
        rintro e w1 ⟨⟨x1, rfl, hx⟩, b1⟩
        rw [← hWt] at hx b1
        obtain ⟨p3, c3, q3, d3, rfl, -, -⟩ := (val_is _ _ _).1 hx
        have hz1 := b1.size
        have b01 : Below wr.heap.size wr w1 := HBt.out.trans (b1.mono (by omega))
        have hown : w1.ownsRow (w.heap.size + 2) 26 7 (.slice A0 i C0) i xs := jrow_same HOr.out (fun g hg => b01.block g (HOr.out.lt g hg).2)
        obtain ⟨sv, hsv⟩ : ∃ sv, stripV k = sv := ⟨_, rfl⟩
        rw [hsv] at hx HCS ⊢
        have HX := Lib.hid hx
        have Hb01 := Lib.hid b01
        clear hx b1 b01 c1 hsv hWt
        have hnews : ∀ j u, ([.int .i64 sv.kind, .bool sv.b, .int .i64 sv.n, .string sv.s, .slice p3 sv.items.length c3, .slice q3 sv.mems.length d3, .int .i64 sv.at'] : List Value)[j]? = some u → (w1.alloc (.cells #[.int .i64 sv.kind, .bool sv.b, .int .i64 sv.n, .string sv.s, .slice p3 sv.items.length c3, .slice q3 sv.mems.length d3, .int .i64 sv.at'] 26)).cell? ((⟨w1.heap.size, 0, none⟩ : Addr).add j) = some u := World.news_of_block (cs := #[.int .i64 sv.kind, .bool sv.b, .int .i64 sv.n, .string sv.s, .slice p3 sv.items.length c3, .slice q3 sv.mems.length d3, .int .i64 sv.at']) (heap_alloc_new w1 _)
        go_wp2_with (at_builtin; refine wpList_append_lies _ rfl _ _ 23 rfl (w.heap.size + 2) 26 i0 (.agg #[.int .i64 0, .bool false, .int .i64 0, .string ⟨#[]⟩, .slice none 0 0, .slice none 0 0, .int .i64 0]) 7 96 Tryz.underlying23 hi0 hi1 hi3 hi4 rfl (by decide) (.slice A0 i C0) i xs rfl (hown.alloc _) ⟨w1.heap.size, 0, none⟩ 1 1 [.int .i64 sv.kind, .bool sv.b, .int .i64 sv.n, .string sv.s, .slice p3 sv.items.length c3, .slice q3 sv.mems.length d3, .int .i64 sv.at'] rfl rfl hnews (by intro u hu; simp at hu; rcases hu with rfl | rfl | rfl | rfl | rfl | rfl | rfl <;> rfl) (by decide) (by unfold maxLen; omega) (by omega) (by simp; omega) (w1.heap.size + 1) (by simp) ?_; intro g cap w4 hown4 hgrow4 hat4 hlt4)
        have hz4 := hgrow4.size
        rw [World.size_alloc] at hz4
        have hb4 : Below (w.heap.size + 2) W w4 := by
          have h5 : Below (w.heap.size + 2) W (w1.alloc (.cells #[.int .i64 sv.kind, .bool sv.b, .int .i64 sv.n, .string sv.s, .slice p3 sv.items.length c3, .slice q3 sv.mems.length d3, .int .i64 sv.at'] 26)) := (HBr.out.trans (Hb01.out.mono (by omega))).alloc (by omega) _
          exact h5.grown hgrow4 (by have := h5.size; simp; omega) (fun k hk => (hown.lt k hk).1)
        have hv4 := VRow.push (W := w4) (g := g) HRr.out HX.out (by omega) (by omega) (by omega) (fun k hk => (HOr.out.lt k hk).2) (hat4.imp id (fun e => by omega)) (fun k hk _ => Hb01.out.block k hk) (fun k hk hkB hko => (hgrow4.block k (by simp; omega) (fun e => hko e.symm)).trans (heap_alloc_old w1 _ hk))
        rw [← HCS.out] at hv4
        have HO4 := Lib.hid hown4
        have HV4 := Lib.hid hv4
        have HB4 := Lib.hid hb4
        clear hown4 hgrow4 hb4 hv4 hown hnews
        go_wp2
        go_roundw
        case rel => exact ⟨i + 1, _, cap, _, by omega, by go_num, rfl, HO4.out, HV4.out, HB4.out⟩
        case measure => simp [intOf]; omega
      · obtain rfl : i = items.length := by omega
        rw [List.take_length] at hr
        obtain ⟨wo, rfl⟩ : ∃ wo, wo = wr := ⟨_, rfl⟩
        have gb : Bj wo w.heap.size #[.int .i64 kd, .bool bb, .int .i64 nn, .string ss, .slice p items.length c, .slice q mems.length d, .int .i64 aa] 26 := (hbr.block _ (by omega)).trans HB0x.out
        have g5 : wo.cell? ⟨w.heap.size, 5, none⟩ = some (.slice q mems.length d) := gb.cell 5
        have hMo := HMW.out.below (hbr.mono (by omega))
        have HOi := Lib.hid ho
        have HRi := Lib.hid hr
        have HBi := Lib.hid hbr
        have HMo := Lib.hid hMo
        clear ho hr hbr gb hMo g4
        go_wp2
        go_loopw [6, 25] (fun x qv wr => ∃ (i : Nat) (A1 : Option Addr) (C1 : Nat) (ys : List Value), i ≤ mems.length ∧ qv = .int .i64 i ∧ x = .slice A1 i C1 ∧ wr.ownsRow wo.heap.size 44 9 (.slice A1 i C1) i ys ∧ MRow wr (lowx wo.heap.size (Value.slice A1 i C1).ownBlock) ((mems.take i).map stripM) ys ∧ Below wo.heap.size wo wr) (fun _ qv _ => mems.length - (intOf qv).toNat)
        case atStart => exact ⟨0, none, 0, [], Nat.zero_le _, rfl, rfl, World.ownsRow_nil _ _ _ _, by rw [List.take_zero, List.map_nil, MRow], Below.refl _ _⟩
        case round =>
          obtain ⟨i, A1, C1, ys, hi2, rfl, rfl, ho, hr, hbr⟩ := hrel
          have hzr2 := hbr.size
          by_cases hlt2 : i < mems.length
          · have hiz : (i : Int) < (mems.length : Int) := by omega
            obtain ⟨a, p2, c2, q2, d2, rfl, ⟨a0, a1, a2, a3, a4, a5, a6, a7, a8⟩, hk⟩ := (HMo.out.below hbr).cells i hlt2
            have hcs : (mems.take (i + 1)).map stripM = (mems.take i).map stripM ++ [stripM mems[i]] := by rw [List.take_succ_eq_append_getElem hlt2, List.map_append]; rfl
            obtain ⟨k, hkk⟩ : ∃ k, mems[i] = k := ⟨_, rfl⟩
            have hmem : k ∈ mems := by rw [← hkk]; exact List.getElem_mem _
            rw [hkk] at hk a0 a1 a2 a3 a4 a5 a6 a7 a8 hcs
            obtain ⟨Wt, hWt⟩ : ∃ Wt, Wt = wr.alloc (.cells #[.string k.key, .int .i64 k.v.kind, .bool k.v.b, .int .i64 k.v.n, .string k.v.s, .slice p2 k.v.items.length c2, .slice q2 k.v.mems.length d2, .int .i64 k.v.at', .int .i64 k.at'] 44) := ⟨_, rfl⟩
            have Bt : Below wr.heap.size wr Wt := by rw [hWt]; exact (Below.refl _ _).alloc (Nat.le_refl _) _
            have hzt : Wt.heap.size = wr.heap.size + 1 := by rw [hWt]; simp
            have hmb : Bj Wt wr.heap.size #[.string k.key, .int .i64 k.v.kind, .bool k.v.b, .int .i64 k.v.n, .string k.v.s, .slice p2 k.v.items.length c2, .slice q2 k.v.mems.length d2, .int .i64 k.v.at', .int .i64 k.at'] 44 := by rw [hWt]; exact Bj.new _ _ _
            have c1 := HSM.out k hmem _ Wt.drew (hk.below Bt.drew)
            obtain ⟨mb, hmbe⟩ : ∃ mb, mb = wr.heap.size := ⟨_, rfl⟩
            rw [← hmbe] at hmb
            have hS0 : Wt.drew.cell? ⟨mb, 0, none⟩ = some (.string k.key) ∧ Wt.drew.cell? ⟨mb, 1, none⟩ = some (.int .i64 k.v.kind) ∧ Wt.drew.cell? ⟨mb, 2, none⟩ = some (.bool k.v.b) ∧ Wt.drew.cell? ⟨mb, 3, none⟩ = some (.int .i64 k.v.n) ∧ Wt.drew.cell? ⟨mb, 4, none⟩ = some (.string k.v.s) ∧ Wt.drew.cell? ⟨mb, 5, none⟩ = some (.slice p2 k.v.items.length c2) ∧ Wt.drew.cell? ⟨mb, 6, none⟩ = some (.slice q2 k.v.mems.length d2) ∧ Wt.drew.cell? ⟨mb, 7, none⟩ = some (.int .i64 k.v.at') := ⟨hmb.cell 0, hmb.cell 1, hmb.cell 2, hmb.cell 3, hmb.cell 4, hmb.cell 5, hmb.cell 6, hmb.cell 7⟩
            have hmbl : mb < Wt.drew.heap.size := hmb.lt
            have hnoo : ∀ k, (Value.slice A1 i C1).ownBlock = some k → k ≠ mb := fun k hk => by have := (ho.lt k hk).2; omega
            have hobl : ∀ k, (Value.slice A1 i C1).ownBlock = some k → k < wr.heap.size := fun k hk => (ho.lt k hk).2
            have hown0 : Wt.drew.ownsRow wo.heap.size 44 9 (.slice A1 i C1) i ys := jrow_same ho (fun g hg => Bt.block g (ho.lt g hg).2)
            obtain ⟨cc, hcc⟩ : ∃ c, a.add (i * 9) = c := ⟨_, rfl⟩
            rw [hcc] at a0 a1 a2 a3 a4 a5 a6 a7 a8
            simp only [Addr.add, Nat.reduceEqDiff, ↓reduceIte] at a1 a2 a3 a4 a5 a6 a7 a8
            obtain ⟨sv, hsv⟩ : ∃ sv, stripV k.v = sv := ⟨_, rfl⟩
            rw [stripM_eq, hsv] at hcs
            rw [hsv] at c1
            have HCS := Lib.hid hcs
            have HOr := Lib.hid ho
            have HRr := Lib.hid hr
            have HBr := Lib.hid hbr
            have HBt := Lib.hid Bt
            clear hk hmem hkk hcs ho hr hbr Bt hmb hsv
            go_wp2
            simp only [← hWt, ← hmbe]
            clear hWt a0 a1 a2 a3 a4 a5 a6 a7 a8 hcc hmbe
            have hS5' : ∀ w5 : World, Below Wt.drew.heap.size Wt.drew w5 → w5.cell? ⟨mb, 0, none⟩ = some (.string k.key) ∧ w5.cell? ⟨mb, 1, none⟩ = some (.int .i64 k.v.kind) ∧ w5.cell? ⟨mb, 2, none⟩ = some (.bool k.v.b) ∧ w5.cell? ⟨mb, 3, none⟩ = some (.int .i64 k.v.n) ∧ w5.cell? ⟨mb, 4, none⟩ = some (.string k.v.s) ∧ w5.cell? ⟨mb, 5, none⟩ = some (.slice p2 k.v.items.length c2) ∧ w5.cell? ⟨mb, 6, none⟩ = some (.slice q2 k.v.mems.length d2) ∧ w5.cell? ⟨mb, 7, none⟩ = some (.int .i64 k.v.at') := fun w5 b5 => ⟨(b5.cell (p := ⟨mb, 0, none⟩) hmbl).trans hS0.1, (b5.cell (p := ⟨mb, 1, none⟩) hmbl).trans hS0.2.1, (b5.cell (p := ⟨mb, 2, none⟩) hmbl).trans hS0.2.2.1, (b5.cell (p := ⟨mb, 3, none⟩) hmbl).trans hS0.2.2.2.1, (b5.cell (p := ⟨mb, 4, none⟩) hmbl).trans hS0.2.2.2.2.1, (b5.cell (p := ⟨mb, 5, none⟩) hmbl).trans hS0.2.2.2.2.2.1, (b5.cell (p := ⟨mb, 6, none⟩) hmbl).trans hS0.2.2.2.2.2.2.1, (b5.cell (p := ⟨mb, 7, none⟩) hmbl).trans hS0.2.2.2.2.2.2.2⟩
            have hS6' : ∀ (w5 : World) (o : Obj), (w5.cell? ⟨mb, 0, none⟩ = some (.string k.key) ∧ w5.cell? ⟨mb, 1, none⟩ = some (.int .i64 k.v.kind) ∧ w5.cell? ⟨mb, 2, none⟩ = some (.bool k.v.b) ∧ w5.cell? ⟨mb, 3, none⟩ = some (.int .i64 k.v.n) ∧ w5.cell? ⟨mb, 4, none⟩ = some (.string k.v.s) ∧ w5.cell? ⟨mb, 5, none⟩ = some (.slice p2 k.v.items.length c2) ∧ w5.cell? ⟨mb, 6, none⟩ = some (.slice q2 k.v.mems.length d2) ∧ w5.cell? ⟨mb, 7, none⟩ = some (.int .i64 k.v.at')) → (w5.alloc o).cell? ⟨mb, 0, none⟩ = some (.string k.key) ∧ (w5.alloc o).cell? ⟨mb, 1, none⟩ = some (.int .i64 k.v.kind) ∧ (w5.alloc o).cell? ⟨mb, 2, none⟩ = some (.bool k.v.b) ∧ (w5.alloc o).cell? ⟨mb, 3, none⟩ = some (.int .i64 k.v.n) ∧ (w5.alloc o).cell? ⟨mb, 4, none⟩ = some (.string k.v.s) ∧ (w5.alloc o).cell? ⟨mb, 5, none⟩ = some (.slice p2 k.v.items.length c2) ∧ (w5.alloc o).cell? ⟨mb, 6, none⟩ = some (.slice q2 k.v.mems.length d2) ∧ (w5.alloc o).cell? ⟨mb, 7, none⟩ = some (.int .i64 k.v.at') := fun w5 o h => ⟨jcell_alloc h.1 o, jcell_alloc h.2.1 o, jcell_alloc h.2.2.1 o, jcell_alloc h.2.2.2.1 o, jcell_alloc h.2.2.2.2.1 o, jcell_alloc h.2.2.2.2.2.1 o, jcell_alloc h.2.2.2.2.2.2.1 o, jcell_alloc h.2.2.2.2.2.2.2 o⟩
            have hS7' : ∀ (w5 w7 : World), (w5.cell? ⟨mb, 0, none⟩ = some (.string k.key) ∧ w5.cell? ⟨mb, 1, none⟩ = some (.int .i64 k.v.kind) ∧ w5.cell? ⟨mb, 2, none⟩ = some (.bool k.v.b) ∧ w5.cell? ⟨mb, 3, none⟩ = some (.int .i64 k.v.n) ∧ w5.cell? ⟨mb, 4, none⟩ = some (.string k.v.s) ∧ w5.cell? ⟨mb, 5, none⟩ = some (.slice p2 k.v.items.length c2) ∧ w5.cell? ⟨mb, 6, none⟩ = some (.slice q2 k.v.mems.length d2) ∧ w5.cell? ⟨mb, 7, none⟩ = some (.int .i64 k.v.at')) → mb < w5.heap.size → w5.grownBy w7 (Value.slice A1 i C1).ownBlock → w7.cell? ⟨mb, 0, none⟩ = some (.string k.key) ∧ w7.cell? ⟨mb, 1, none⟩ = some (.int .i64 k.v.kind) ∧ w7.cell? ⟨mb, 2, none⟩ = some (.bool k.v.b) ∧ w7.cell? ⟨mb, 3, none⟩ = some (.int .i64 k.v.n) ∧ w7.cell? ⟨mb, 4, none⟩ = some (.string k.v.s) ∧ w7.cell? ⟨mb, 5, none⟩ = some (.slice p2 k.v.items.length c2) ∧ w7.cell? ⟨mb, 6, none⟩ = some (.slice q2 k.v.mems.length d2) ∧ w7.cell? ⟨mb, 7, none⟩ = some (.int .i64 k.v.at') := fun w5 w7 h hl hg => ⟨(hg.cell_far ⟨mb, 0, none⟩ hl (fun e => hnoo _ e.symm rfl)).trans h.1, (hg.cell_far ⟨mb, 1, none⟩ hl (fun e => hnoo _ e.symm rfl)).trans h.2.1, (hg.cell_far ⟨mb, 2, none⟩ hl (fun e => hnoo _ e.symm rfl)).trans h.2.2.1, (hg.cell_far ⟨mb, 3, none⟩ hl (fun e => hnoo _ e.symm rfl)).trans h.2.2.2.1, (hg.cell_far ⟨mb, 4, none⟩ hl (fun e => hnoo _ e.symm rfl)).trans h.2.2.2.2.1, (hg.cell_far ⟨mb, 5, none⟩ hl (fun e => hnoo _ e.symm rfl)).trans h.2.2.2.2.2.1, (hg.cell_far ⟨mb, 6, none⟩ hl (fun e => hnoo _ e.symm rfl)).trans h.2.2.2.2.2.2.1, (hg.cell_far ⟨mb, 7, none⟩ hl (fun e => hnoo _ e.symm rfl)).trans h.2.2.2.2.2.2.2⟩
            have hown5' : ∀ w5 : World, Below Wt.drew.heap.size Wt.drew w5 → w5.ownsRow wo.heap.size 44 9 (.slice A1 i C1) i ys := fun w5 b5 => jrow_same hown0 (fun g hg => b5.block g (hown0.lt g hg).2)
            have hnews5' : ∀ (w5 : World) (p3 : Option Addr) (c3 : Nat) (q3 : Option Addr) (d3 : Nat), ∀ j u, ([.string k.key, .int .i64 sv.kind, .bool sv.b, .int .i64 sv.n, .string sv.s, .slice p3 sv.items.length c3, .slice q3 sv.mems.length d3, .int .i64 sv.at', .int .i64 0] : List Value)[j]? = some u → (w5.alloc (.cells #[.string k.key, .int .i64 sv.kind, .bool sv.b, .int .i64 sv.n, .string sv.s, .slice p3 sv.items.length c3, .slice q3 sv.mems.length d3, .int .i64 sv.at', .int .i64 0] 44)).cell? ((⟨w5.heap.size, 0, none⟩ : Addr).add j) = some u := fun w5 p3 c3 q3 d3 => World.news_of_block (cs := #[.string k.key, .int .i64 sv.kind, .bool sv.b, .int .i64 sv.n, .string sv.s, .slice p3 sv.items.length c3, .slice q3 sv.mems.length d3, .int .i64 sv.at', .int .i64 0]) (heap_alloc_new w5 _)
            have hmba : ∀ (w5 : World) (o : Obj), Below Wt.drew.heap.size Wt.drew w5 → mb < (w5.alloc o).heap.size := fun w5 o b5 => by
              rw [World.size_alloc]
              have := b5.size
              omega
            go_region_held3 (fun w' => w'.cell? ⟨mb, 0, none⟩ = some (.string k.key) ∧ w'.cell? ⟨mb, 1, none⟩ = some (.int .i64 k.v.kind) ∧ w'.cell? ⟨mb, 2, none⟩ = some (.bool k.v.b) ∧ w'.cell? ⟨mb, 3, none⟩ = some (.int .i64 k.v.n) ∧ w'.cell? ⟨mb, 4, none⟩ = some (.string k.v.s) ∧ w'.cell? ⟨mb, 5, none⟩ = some (.slice p2 k.v.items.length c2) ∧ w'.cell? ⟨mb, 6, none⟩ = some (.slice q2 k.v.mems.length d2) ∧ w'.cell? ⟨mb, 7, none⟩ = some (.int .i64 k.v.at')) (first | with_reducible exact hS0 | with_reducible exact hS5 | with_reducible exact hS6 _ | with_reducible exact hS7) (first | (refine step_append_lies _ rfl (.tmp 29) (.tmp 36) 24 rfl wo.heap.size 44 j0 (.agg #[.string ⟨#[]⟩, .int .i64 0, .bool false, .int .i64 0, .string ⟨#[]⟩, .slice none 0 0, .slice none 0 0, .int .i64 0, .int .i64 0]) 9 120 Tryz.underlying24 hj0 hj1 hj3 hj4 rfl (by decide) (.slice A1 i C1) i ys (by simp [Act.eval]) (hown5.alloc _) ⟨w5.heap.size, 0, none⟩ 1 1 [.string k.key, .int .i64 sv.kind, .bool sv.b, .int .i64 sv.n, .string sv.s, .slice p3 sv.items.length c3, .slice q3 sv.mems.length d3, .int .i64 sv.at', .int .i64 0] (by simp [Act.eval]) rfl (hnews5' w5 p3 c3 q3 d3) (by intro u hu; simp at hu; rcases hu with rfl | rfl | rfl | rfl | rfl | rfl | rfl | rfl | rfl <;> rfl) (by decide) (by unfold maxLen; omega) (by omega) (by simp; omega) (w5.heap.size + 1) (by simp) ?_; intro g cap w7 hown7 hgrow7 hat7 hlt7; have hS7 := hS7' _ w7 (hS6 _) (hmba w5 _ b5) hgrow7) | (go_at_call 19; refine c1.mono ?_; rintro e w5 ⟨⟨x1, rfl, hx⟩, b5⟩; obtain ⟨p3, c3, q3, d3, rfl, -, -⟩ := (val_is _ _ _).1 hx; have hS5 := hS5' w5 b5; have hS6 := fun o => hS6' w5 o hS5; have hown5 := hown5' w5 b5; have hz5 : Wt.heap.size ≤ w5.heap.size := b5.size))
            have hz7 := hgrow7.size
            rw [World.size_alloc] at hz7
            have b05 : Below wr.heap.size wr w5 := HBt.out.trans (((Below.refl Wt.heap.size Wt).drew.trans b5).mono (by omega))
            have hb7 : Below wo.heap.size wo w7 := by
              have h5 : Below wo.heap.size wo (w5.alloc (.cells #[.string k.key, .int .i64 sv.kind, .bool sv.b, .int .i64 sv.n, .string sv.s, .slice p3 sv.items.length c3, .slice q3 sv.mems.length d3, .int .i64 sv.at', .int .i64 0] 44)) := (HBr.out.trans (b05.mono (by omega))).alloc (by have := b05.size; omega) _
              exact h5.grown hgrow7 (by have := h5.size; simp; omega) (fun k hk => (hown5.lt k hk).1)
            have hv7 := MRow.push (W := w7) (g := g) (m := .mk k.key sv 0) HRr.out (show ValIs (sans w5 (low Wt.heap.size)) sv _ from hx) (by omega) (by omega) b05.size hobl (hat7.imp id (fun e => by omega)) (fun k hk _ => b05.block k hk) (fun k hk hkB hko => (hgrow7.block k (by simp; omega) (fun e => hko e.symm)).trans (heap_alloc_old w5 _ hk))
            rw [← HCS.out] at hv7
            have HO7 := Lib.hid hown7
            have HV7 := Lib.hid hv7
            have HB7 := Lib.hid hb7
            clear hown7 hgrow7 hb7 hv7 hown5 hnews5' hS7 hS7' hS6' hS5' hown5' hmba hS6 hS5 hS0 b5 b05 hx hown0
            go_wp2
            go_roundw
            case rel => exact ⟨i + 1, _, cap, _, by omega, by go_num, rfl, HO7.out, HV7.out, HB7.out⟩
            case measure => simp [intOf]; omega
          · obtain rfl : i = mems.length := by omega
            rw [List.take_length] at hr
            have gb : Bj wr w.heap.size #[.int .i64 kd, .bool bb, .int .i64 nn, .string ss, .slice p items.length c, .slice q mems.length d, .int .i64 aa] 26 := (hbr.block _ (by omega)).trans ((HBi.out.block _ (by omega)).trans HB0x.out)
            have gr : Bj wr (w.heap.size + 1) #[.int .i64 0, .bool false, .int .i64 0, .string ⟨#[]⟩, .slice none 0 0, .slice none 0 0, .int .i64 0] 26 := (hbr.block _ (by omega)).trans ((HBi.out.block _ (by omega)).trans HB1x.out)
            have e0 : wr.cell? ⟨w.heap.size, 0, none⟩ = some (.int .i64 kd) := gb.cell 0
            have e1 : wr.cell? ⟨w.heap.size, 1, none⟩ = some (.bool bb) := gb.cell 1
            have e2 : wr.cell? ⟨w.heap.size, 2, none⟩ = some (.int .i64 nn) := gb.cell 2
            have e3 : wr.cell? ⟨w.heap.size, 3, none⟩ = some (.string ss) := gb.cell 3
            obtain ⟨⟨x0, x1, x2, x3, x4, x5, x6⟩, y0, y1, y2, y3, y4, y5, y6⟩ := gr.seven
            have hoi : wr.ownsRow (w.heap.size + 2) 26 7 (.slice A0 items.length C0) items.length xs := jrow_same HOi.out (fun g hg => hbr.block g (HOi.out.lt g hg).2)
            have hri := VRow.go (Gos.below (X := lowx (w.heap.size + 2) (Value.slice A0 items.length C0).ownBlock) hbr) _ _ HRi.out
            have hit := VRow.whole hoi hri (by rw [List.length_map])
            have hmt := MRow.whole ho hr (by rw [List.length_map])
            have hB9 : Below w.heap.size w wr := HBW.out.trans ((HBi.out.trans (hbr.mono (by omega))).mono (by omega))
            have HIT := Lib.hid hit
            have HMT := Lib.hid hmt
            have HB9 := Lib.hid hB9
            clear ho hr hbr gb gr hoi hri hit hmt hB9
            go_wp2
            refine bodyPost_ret (v := .agg #[.int .i64 kd, .bool bb, .int .i64 nn, .string ss, .slice A0 items.length C0, .slice A1 mems.length C1, .int .i64 0]) (by simp [results, Tryz.results19, go_sem, jset_same, x0, x1, x2, x3, x4, x5, x6]) rfl ⟨⟨_, rfl, ?_⟩, ?_⟩
            · rw [val_is]
              refine ⟨A0, C0, A1, C1, by simp [ValD.kind, ValD.b, ValD.n, ValD.s, ValD.items, ValD.mems, ValD.at'], ItemsAt.mono (fun a v ha => Gos.cell (w := wr) (X := low (w.heap.size + 2)) (fun k hk hn => ?_) a v ha) _ _ _ HIT.out, MemsAt.mono (fun a v ha => Gos.cell (w := wr) (X := low wo.heap.size) (fun k hk hn => ?_) a v ha) _ _ _ HMT.out⟩
              · have hkn := low_no hn
                have hne : k ≠ w.heap.size + 1 := by omega
                exact ⟨low_ok (by omega), by rw [Below.heap_setCell _ _ _ _ hne, Below.heap_setCell _ _ _ _ hne, Below.heap_setCell _ _ _ _ hne, Below.heap_setCell _ _ _ _ hne, Below.heap_setCell _ _ _ _ hne, Below.heap_setCell _ _ _ _ hne, Below.heap_setCell _ _ _ _ hne]⟩
              · have hkn := low_no hn
                have hne : k ≠ w.heap.size + 1 := by omega
                exact ⟨low_ok (by omega), by rw [Below.heap_setCell _ _ _ _ hne, Below.heap_setCell _ _ _ _ hne, Below.heap_setCell _ _ _ _ hne, Below.heap_setCell _ _ _ _ hne, Below.heap_setCell _ _ _ _ hne, Below.heap_setCell _ _ _ _ hne, Below.heap_setCell _ _ _ _ hne]⟩
            · exact ((((((HB9.out.setCell (p := ⟨w.heap.size + 1, 0, none⟩) (Nat.le_succ _) _).setCell (p := ⟨w.heap.size + 1, 1, none⟩) (Nat.le_succ _) _).setCell (p := ⟨w.heap.size + 1, 2, none⟩) (Nat.le_succ _) _).setCell (p := ⟨w.heap.size + 1, 3, none⟩) (Nat.le_succ _) _).setCell (p := ⟨w.heap.size + 1, 4, none⟩) (Nat.le_succ _) _).setCell (p := ⟨w.heap.size + 1, 5, none⟩) (Nat.le_succ _) _).setCell (p := ⟨w.heap.size + 1, 6, none⟩) (Nat.le_succ _) _
end Go.Proofs.YtkkiklaoljdhhaaGreatDoor
end
