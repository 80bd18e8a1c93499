/- Packed from the texts WrW. -/
import Derived.Test.YtppmoeidgefkpaaDoorVkP
section
namespace Go.Proofs.YtppmoeidgefkpaaDoor
open Go.RowKit
structure EI (w : World) (B0 : Nat) (nm : ByteArray) (done : List NodeD) (v : Value) (xs : List Value) (wr : World) : Prop where
  res : Blk wr w.heap.size nodeZs 25
  box : Blk wr (w.heap.size + 1) #[.int .i64 0, .string ⟨#[]⟩, .string nm, .slice none 0 0, v, .string ⟨#[]⟩, .int .i64 0] 25
  row : wr.ownsRow B0 25 7 v done.length xs
  kids : KRow (holes wr ([w.heap.size, w.heap.size + 1] ++ v.ownBlock.toList)) done xs
  below : Below w.heap.size w wr
theorem EI.more {w : World} {B0 : Nat} {nm : ByteArray} {done : List NodeD} {v : Value} {xs : List Value} {wr w' : World} (h : EI w B0 nm done v xs wr) (hb : Below wr.heap.size wr w') : EI w B0 nm done v xs w' :=
  ⟨h.res.more hb, h.box.more hb, row_below h.row hb, KRow.go (Goes.below hb) _ _ h.kids, h.below.trans (hb.mono h.below.size)⟩
theorem EI.put {w : World} {B0 : Nat} {nm : ByteArray} {done : List NodeD} {v v' : Value} {xs : List Value} {wr w6 : World} {k : NodeD} {c0 c1 c2 c3 c4 c5 c6 : Value} (h : EI w B0 nm done v xs wr) (hB : w.heap.size + 2 ≤ B0) (hg : wr.grownBy w6 v.ownBlock) (hk : NodeIs (holes wr ([w.heap.size, w.heap.size + 1] ++ v.ownBlock.toList)) k (.agg #[c0, c1, c2, c3, c4, c5, c6])) (hr : w6.ownsRow B0 25 7 v' (done.length + 1) (xs ++ [c0, c1, c2, c3, c4, c5, c6])) (hnew : ∀ g, v'.ownBlock = some g → v.ownBlock = some g ∨ wr.heap.size ≤ g) :
    EI w B0 nm (done ++ [k]) v' (xs ++ [c0, c1, c2, c3, c4, c5, c6]) (w6.setCell ⟨w.heap.size + 1, 4, none⟩ v') := by
  have hlt := h.row
  have hne : ∀ k, k < B0 → v.ownBlock ≠ some k := fun k hk e => by have := (row_kind hlt k e).1; omega
  have b1 := (hg.block _ h.box.lt (fun e => hne _ (by omega) e.symm)).trans h.box
  have b2 : Blk w6 w.heap.size nodeZs 25 := (hg.block _ h.res.lt (fun e => hne _ (by omega) e.symm)).trans h.res
  have b1' : Blk w6 (w.heap.size + 1) #[.int .i64 0, .string ⟨#[]⟩, .string nm, .slice none 0 0, v, .string ⟨#[]⟩, .int .i64 0] 25 := b1
  have hgo : Goes wr ([w.heap.size, w.heap.size + 1] ++ v.ownBlock.toList) w6 ([w.heap.size, w.heap.size + 1] ++ v'.ownBlock.toList) := fun b hb1 hb2 => by
    refine ⟨fun e => ?_, hg.block b hb1 (fun e => hb2 (List.mem_append_right _ (by rw [← e]; simp)))⟩
    rcases List.mem_append.1 e with e | e
    · exact hb2 (List.mem_append_left _ e)
    have hv : v'.ownBlock = some b := by simpa using e
    rcases hnew b hv with h3 | h3
    · exact hb2 (List.mem_append_right _ (by rw [h3]; simp))
    · omega
  have hgo2 : Goes wr ([w.heap.size, w.heap.size + 1] ++ v.ownBlock.toList) (w6.setCell ⟨w.heap.size + 1, 4, none⟩ v') ([w.heap.size, w.heap.size + 1] ++ v'.ownBlock.toList) := hgo.trans (Goes.set (by simp) _) hg.size
  refine ⟨b2.own (by show w.heap.size + 1 ≠ w.heap.size; omega) _, b1'.set 4 v', ?_, KRow.snoc (hk.go hgo2) _ _ (KRow.go hgo2 _ _ h.kids), ?_⟩
  · rw [List.length_append, List.length_singleton]
    exact rowSame hr (fun g hg' => Below.heap_setCell _ _ _ _ (fun e => by have := (row_kind hr g hg').1; simp only at e; omega))
  · refine (h.below.grown hg h.below.size (fun k hk => by have := (row_kind hlt k hk).1; omega)).trans ⟨rfl, rfl, rfl, by simp [World.setCell], fun k hk => Below.heap_setCell _ _ _ _ (fun e => by simp only at e; omega)⟩
theorem node9_newsD (w : World) (t : TypeId) (c0 c1 c2 c3 c4 c5 c6 : Value) : ∀ j u, ([c0, c1, c2, c3, c4, c5, c6] : List Value)[j]? = some u → (w.alloc (.cells #[c0, c1, c2, c3, c4, c5, c6] t)).drew.cell? ((⟨w.heap.size, 0, none⟩ : Addr).add j) = some u := fun j u hu => node9_news w t c0 c1 c2 c3 c4 c5 c6 j u hu
set_option maxRecDepth 100000 in
set_option maxHeartbeats 16000000 in
theorem wref_Elem (nm : ByteArray) (kids : List NodeD) (pk : Option Addr) (ck : Nat) (w : World) (hK : KidsAt w pk 0 kids) (hl : kids.length ≤ 1000000) :
    Calls Tryd.prog 15 #[.string nm, .slice pk kids.length ck] w fun e w' => ∃ v', e = .returned v' ∧ NodeIs w' (elemP nm kids) v' ∧ Below w.heap.size w w' := by
  obtain ⟨i0, hi0, hi1, hi3, hi4⟩ := info_parts kinfo_node
  have hkl : (kids.length : Int) ≤ 1000000 := by omega
  have hA : ∀ (wx : World) o, (wx.alloc o).heap.size = wx.heap.size + 1 := fun wx o => by simp
  obtain ⟨W, hW⟩ : ∃ W, W = (w.alloc (.cells nodeZs 25)).alloc (.cells #[.int .i64 0, .string ⟨#[]⟩, .string nm, .slice none 0 0, .slice none 0 0, .string ⟨#[]⟩, .int .i64 0] 25) := ⟨_, rfl⟩
  have b1 : Below w.heap.size w (w.alloc (.cells nodeZs 25)) := (Below.refl _ _).alloc (Nat.le_refl _) _
  have b2 : Below (w.alloc (.cells nodeZs 25)).heap.size (w.alloc (.cells nodeZs 25)) W := by rw [hW]; exact (Below.refl _ _).alloc (Nat.le_refl _) _
  have hz0 : w.heap.size + 2 ≤ W.heap.size := by rw [hW, hA, hA]; omega
  have HI0 : EI w W.heap.size nm [] (.slice none 0 0) [] W := by
    refine ⟨(Blk.new w _ _).more b2, ?_, World.ownsRow_nil _ _ _ _, rfl, b1.trans (b2.mono (by rw [hA]; omega))⟩
    have := Blk.new (w.alloc (.cells nodeZs 25)) #[.int .i64 0, .string ⟨#[]⟩, .string nm, .slice none 0 0, .slice none 0 0, .string ⟨#[]⟩, .int .i64 0] 25
    rw [hA, ← hW] at this
    exact this
  have HI := Lib.hid HI0
  have HK := Lib.hid hK
  have HEE := Lib.hid (show elemP nm kids = .mk 0 ⟨#[]⟩ nm [] (kids.filter keepB) ⟨#[]⟩ 0 from rfl)
  generalize elemP nm kids = EP at *
  unfold nodeZs at hW
  clear HI0 b1 b2 hA hK
  go_enter Tryd.func15, Tryd.ntmps15
  go_upto_region 2 with fail
  simp only [← hW]
  clear hW
  go_wp2
  go_loopw [6] (fun q wr => ∃ (i : Nat) (done : List NodeD) (pv : Option Addr) (cv : Nat) (xs : List Value), i ≤ kids.length ∧ q = .int .i64 i ∧ done.length ≤ i ∧ kids.filter keepB = done ++ (kids.drop i).filter keepB ∧ EI w W.heap.size nm done (.slice pv done.length cv) xs wr ∧ W.heap.size ≤ wr.heap.size) (fun q _ => kids.length - (intOf q).toNat)
  case atStart => exact ⟨0, [], none, 0, [], Nat.zero_le _, rfl, Nat.le_refl _, rfl, HI.out, Nat.le_refl _⟩
  case round =>
    clear HI
    obtain ⟨i, done, pv, cv, xs, hi, rfl, hdl, hch, hI, hzW⟩ := hrel
    have HW := Lib.hid hI
    by_cases hlt : i < kids.length
    · have hiz : (i : Int) < (kids.length : Int) := by omega
      rw [List.drop_eq_getElem_cons hlt] at hch
      obtain ⟨a, v0, v1, v2, v3, v4, v5, v6, rfl, ⟨a0, a1, a2, a3, a4, a5, a6⟩, hk0⟩ := KidsAt.get kids 0 HK.out i hlt
      rw [Nat.zero_add] at a0 a1 a2 a3 a4 a5 a6
      obtain ⟨k, hkk⟩ : ∃ k, kids[i] = k := ⟨_, rfl⟩
      rw [hkk] at hk0 hch
      obtain ⟨ka, da, kq, dk, hv⟩ := node_form hk0
      simp only [Value.agg.injEq, Array.mk.injEq, List.cons.injEq, and_true] at hv
      obtain ⟨rfl, rfl, rfl, rfl, rfl, rfl, rfl⟩ := hv
      obtain ⟨cc, hcc⟩ : ∃ c, a.add (i * 7) = c := ⟨_, rfl⟩
      rw [hcc] at a0 a1 a2 a3 a4 a5 a6
      simp only [Addr.add, Nat.reduceEqDiff, ↓reduceIte] at a1 a2 a3 a4 a5 a6
      have hGo : Goes w [] wr ([w.heap.size, w.heap.size + 1] ++ (Value.slice pv done.length cv).ownBlock.toList) := fun b hb _ => ⟨fun e => by
        rcases List.mem_append.1 e with e | e
        · simp at e; omega
        · have := (own_lt hI.row b e).1; omega, hI.below.block b hb⟩
      have hN4 : NodeIs (holes wr ([w.heap.size, w.heap.size + 1] ++ (Value.slice pv done.length cv).ownBlock.toList)) k (.agg #[.int .i64 k.kind, .string k.sp, .string k.nm, .slice ka k.al.length da, .slice kq k.kids.length dk, .string k.tx, .int .i64 k.at']) := by
        have := hk0
        rw [← holes_nil w] at this
        exact this.go hGo
      replace a0 := (hI.below.cell (kblock_lt a0)).trans a0
      replace a1 := (hI.below.cell (kblock_lt a1)).trans a1
      replace a2 := (hI.below.cell (kblock_lt a2)).trans a2
      replace a3 := (hI.below.cell (kblock_lt a3)).trans a3
      replace a4 := (hI.below.cell (kblock_lt a4)).trans a4
      replace a5 := (hI.below.cell (kblock_lt a5)).trans a5
      replace a6 := (hI.below.cell (kblock_lt a6)).trans a6
      have hke := keep_eq k
      have HN4 := Lib.hid hN4
      have HKF := Lib.hid (node9_one k)
      clear hk0 hkk hGo hN4
      by_cases hy : keepB k = true
      case neg =>
        have hy0 : keepB k = false := by simpa using hy
        rw [keep_no _ hy0] at hch
        rw [hy0] at hke
        have h1 : k.kind = 1 := by
          by_cases h : k.kind = 1
          · exact h
          · rw [decide_eq_false h] at hke; cases hke
        have h5 : k.tx.size = 0 := by
          by_cases h : k.tx.size = 0
          · exact h
          · rw [noneB_f h, Bool.and_false] at hke; cases hke
        have h5' := str_none h5
        rw [h1] at a0
        rw [h5'] at a5
        have HR := Lib.hid hch
        clear hke hy hy0 h1 h5 h5' hch hI
        go_wp2
        go_roundw
        case rel => exact ⟨i + 1, done, pv, cv, xs, by omega, by go_num, by omega, HR.out, HW.out, hzW⟩
        case measure => simp [intOf]; omega
      rw [keep_yes _ hy] at hch
      have HCH := Lib.hid (show kids.filter keepB = (done ++ [k]) ++ (kids.drop (i + 1)).filter keepB by rw [hch, List.append_assoc]; rfl)
      rw [hy] at hke
      have g4 : wr.drew.cell? ⟨w.heap.size + 1, 4, none⟩ = some (.slice pv done.length cv) := hI.box.cell 4
      have g4a : ∀ o, (wr.alloc o).drew.cell? ⟨w.heap.size + 1, 4, none⟩ = some (.slice pv done.length cv) := fun o => (hI.box.more ((Below.refl _ _).alloc (Nat.le_refl _) o)).cell 4
      have hIA : ∀ o, EI w W.heap.size nm done (.slice pv done.length cv) xs (wr.alloc o).drew := fun o => hI.more ((Below.refl _ _).alloc (Nat.le_refl _) o).drew
      have HIA := Lib.hid hIA
      have hown1 : ∀ o, (wr.alloc o).drew.ownsRow W.heap.size 25 7 (.slice pv done.length cv) done.length xs := fun o => (hIA o).row
      have hpost : ∀ o w6, (wr.alloc o).drew.grownBy w6 (Value.slice pv done.length cv).ownBlock → w6.cell? ⟨w.heap.size + 1, 4, none⟩ = some (.slice pv done.length cv) ∧ w6.frozen? ⟨w.heap.size + 1, 4, none⟩ = false := fun o w6 hg => by
        have hb : Blk w6 (w.heap.size + 1) #[.int .i64 0, .string ⟨#[]⟩, .string nm, .slice none 0 0, .slice pv done.length cv, .string ⟨#[]⟩, .int .i64 0] 25 := (hg.block _ (hIA o).box.lt (fun e => by have := (row_kind (hIA o).row _ e.symm).1; omega)).trans (hIA o).box
        exact ⟨hb.cell 4, hb.fr 4⟩
      have hBz : ∀ o, W.heap.size ≤ (wr.alloc o).drew.heap.size := fun o => by
        show W.heap.size ≤ (wr.alloc o).heap.size
        rw [World.size_alloc]
        omega
      have hNA : ∀ o, NodeIs (holes (wr.alloc o).drew ([w.heap.size, w.heap.size + 1] ++ (Value.slice pv done.length cv).ownBlock.toList)) k (.agg #[.int .i64 k.kind, .string k.sp, .string k.nm, .slice ka k.al.length da, .slice kq k.kids.length dk, .string k.tx, .int .i64 k.at']) := fun o => HN4.out.go (Goes.below ((Below.refl _ _).alloc (Nat.le_refl _) o).drew)
      have HNA := Lib.hid hNA
      have d0 : wr.drew.cell? cc = _ := a0
      have d1 : wr.drew.cell? ⟨cc.block, cc.off + 1, none⟩ = _ := a1
      have d2 : wr.drew.cell? ⟨cc.block, cc.off + 2, none⟩ = _ := a2
      have d3 : wr.drew.cell? ⟨cc.block, cc.off + 3, none⟩ = _ := a3
      have d4 : wr.drew.cell? ⟨cc.block, cc.off + 4, none⟩ = _ := a4
      have d5 : wr.drew.cell? ⟨cc.block, cc.off + 5, none⟩ = _ := a5
      have d6 : wr.drew.cell? ⟨cc.block, cc.off + 6, none⟩ = _ := a6
      clear hch hy hI hIA hNA
      by_cases h1 : k.kind = 1
      case neg =>
        have q1 : (k.kind != 1) = true := by simpa using h1
        clear hke h1
        go_wp2
        go_region_law ((refine step_append_lies _ rfl (.tmp 30) (.tmp 35) 23 rfl W.heap.size 25 i0 (.agg #[.int .i64 0, .string ⟨#[]⟩, .string ⟨#[]⟩, .slice none 0 0, .slice none 0 0, .string ⟨#[]⟩, .int .i64 0]) 7 112 Tryd.underlying23 hi0 hi1 hi3 hi4 rfl (by decide) (.slice pv done.length cv) done.length xs (by simp [Act.eval]) (hown1 _) ⟨wr.heap.size, 0, none⟩ 1 1 [.int .i64 k.kind, .string k.sp, .string k.nm, .slice ka k.al.length da, .slice kq k.kids.length dk, .string k.tx, .int .i64 k.at'] (by simp [Act.eval]) rfl (node9_newsD wr _ _ _ _ _ _ _ _) (HKF.out ka da kq dk) (by decide) (by unfold maxLen; omega) (by omega) (hBz _) (wr.heap.size + 1) (by simp) ?_; intro g cap w6 hown6 hgr6 hat6 hlt6; obtain ⟨c6, f6⟩ := hpost _ w6 hgr6))
        all_goals
          have hz6 := hgr6.size
          have HN := Lib.hid ((HIA.out _).put hz0 hgr6 (HNA.out _) hown6 (fun g' hg' => by
            rcases hat6 with h | h
            · left; rw [h]; simpa [Value.ownBlock] using hg'
            · right; simp [Value.ownBlock] at hg'; show (wr.alloc _).heap.size ≤ g'; rw [World.size_alloc]; omega))
          have hzN : W.heap.size ≤ (w6.setCell ⟨w.heap.size + 1, 4, none⟩ (.slice (some ⟨g, 0, none⟩) (done.length + 1) cap)).heap.size := by
            simp only [World.setCell, Array.size_modify]
            exact Nat.le_trans (hBz _) hz6
          clear hown6 hgr6 hat6 hlt6 c6 f6 g4 g4a hown1 hpost hBz HIA HNA HW a0 a1 a2 a3 a4 a5 a6 d0 d1 d2 d3 d4 d5 d6
          go_wp2
          go_roundw
          case rel => exact ⟨i + 1, done ++ [k], some ⟨g, 0, none⟩, cap, _, by omega, by go_num, by rw [List.length_append, List.length_singleton]; omega, HCH.out, by rw [List.length_append, List.length_singleton]; exact HN.out, hzN⟩
          case measure => simp [intOf]; omega
      · have h5 : k.tx.size ≠ 0 := fun h => by rw [decide_eq_true h1, noneB_t h] at hke; cases hke
        obtain ⟨u1, u2, u3, u4⟩ := str_some h5
        have q1 : (k.kind != 1) = false := by rw [h1]; rfl
        clear hke h1 h5
        go_wp2
        go_region_law ((refine step_append_lies _ rfl (.tmp 30) (.tmp 35) 23 rfl W.heap.size 25 i0 (.agg #[.int .i64 0, .string ⟨#[]⟩, .string ⟨#[]⟩, .slice none 0 0, .slice none 0 0, .string ⟨#[]⟩, .int .i64 0]) 7 112 Tryd.underlying23 hi0 hi1 hi3 hi4 rfl (by decide) (.slice pv done.length cv) done.length xs (by simp [Act.eval]) (hown1 _) ⟨wr.heap.size, 0, none⟩ 1 1 [.int .i64 k.kind, .string k.sp, .string k.nm, .slice ka k.al.length da, .slice kq k.kids.length dk, .string k.tx, .int .i64 k.at'] (by simp [Act.eval]) rfl (node9_newsD wr _ _ _ _ _ _ _ _) (HKF.out ka da kq dk) (by decide) (by unfold maxLen; omega) (by omega) (hBz _) (wr.heap.size + 1) (by simp) ?_; intro g cap w6 hown6 hgr6 hat6 hlt6; obtain ⟨c6, f6⟩ := hpost _ w6 hgr6))
        all_goals
          have hz6 := hgr6.size
          have HN := Lib.hid ((HIA.out _).put hz0 hgr6 (HNA.out _) hown6 (fun g' hg' => by
            rcases hat6 with h | h
            · left; rw [h]; simpa [Value.ownBlock] using hg'
            · right; simp [Value.ownBlock] at hg'; show (wr.alloc _).heap.size ≤ g'; rw [World.size_alloc]; omega))
          have hzN : W.heap.size ≤ (w6.setCell ⟨w.heap.size + 1, 4, none⟩ (.slice (some ⟨g, 0, none⟩) (done.length + 1) cap)).heap.size := by
            simp only [World.setCell, Array.size_modify]
            exact Nat.le_trans (hBz _) hz6
          clear hown6 hgr6 hat6 hlt6 c6 f6 g4 g4a hown1 hpost hBz HIA HNA HW a0 a1 a2 a3 a4 a5 a6 d0 d1 d2 d3 d4 d5 d6
          go_wp2
          go_roundw
          case rel => exact ⟨i + 1, done ++ [k], some ⟨g, 0, none⟩, cap, _, by omega, by go_num, by rw [List.length_append, List.length_singleton]; omega, HCH.out, by rw [List.length_append, List.length_singleton]; exact HN.out, hzN⟩
          case measure => simp [intOf]; omega
    · obtain rfl : i = kids.length := by omega
      have hiz : ¬ (kids.length : Int) < (kids.length : Int) := by omega
      rw [List.drop_length] at hch
      have hd : kids.filter keepB = done := by rw [hch]; simp
      have d0 : wr.cell? ⟨w.heap.size + 1, 0, none⟩ = some (.int .i64 0) := hI.box.cell 0
      have d1 : wr.cell? ⟨w.heap.size + 1, 1, none⟩ = some (.string ⟨#[]⟩) := hI.box.cell 1
      have d2 : wr.cell? ⟨w.heap.size + 1, 2, none⟩ = some (.string nm) := hI.box.cell 2
      have d3 : wr.cell? ⟨w.heap.size + 1, 3, none⟩ = some (.slice none 0 0) := hI.box.cell 3
      have d4 : wr.cell? ⟨w.heap.size + 1, 4, none⟩ = some (.slice pv done.length cv) := hI.box.cell 4
      have d5 : wr.cell? ⟨w.heap.size + 1, 5, none⟩ = some (.string ⟨#[]⟩) := hI.box.cell 5
      have d6 : wr.cell? ⟨w.heap.size + 1, 6, none⟩ = some (.int .i64 0) := hI.box.cell 6
      obtain ⟨⟨r0, r1, r2, r3, r4, r5, r6⟩, k0, k1, k2, k3, k4, k5, k6⟩ := hI.res.seven
      have hfin : ∀ W' : World, Part (fun b => b = w.heap.size) wr W' → NodeIs W' EP (.agg #[.int .i64 0, .string ⟨#[]⟩, .string nm, .slice none 0 0, .slice pv done.length cv, .string ⟨#[]⟩, .int .i64 0]) ∧ Below w.heap.size w W' := by
        intro W' hW'
        refine ⟨?_, hW'.below hI.below (fun b hb => by omega) hI.below.size⟩
        rw [HEE.out, hd, NodeIs]
        refine ⟨none, 0, pv, cv, rfl, fun i hi => absurd hi (Nat.not_lt_zero _), ?_⟩
        obtain ⟨p, c, hv, hkk⟩ := row_kids (L' := [w.heap.size]) hI.row hI.kids (fun b hb => List.mem_append_left _ (by simp at hb; simp [hb])) (fun g hg e => by have := (row_kind hI.row g hg).1; simp at e; omega)
        injection hv with h1
        rw [h1]
        exact KidsAt.full (KidsAt.go hkk fun b hb hn => ⟨hn, hW'.block b hb (fun e => hn (by simp [e]))⟩)
      have HF := Lib.hid hfin
      clear hfin hI hch hd HW
      go_wp2
      exact bodyPost_ret (v := .agg #[.int .i64 0, .string ⟨#[]⟩, .string nm, .slice none 0 0, .slice pv done.length cv, .string ⟨#[]⟩, .int .i64 0]) (by simp [results, Tryd.results15, go_sem, cell_set_same, r0, r1, r2, r3, r4, r5, r6]) rfl ⟨_, rfl, HF.out _ (part_set7 (Part.refl (fun b => b = w.heap.size) wr) (b := w.heap.size) (.inl rfl) 0 _ _ _ _ _ _ _)⟩
end Go.Proofs.YtppmoeidgefkpaaDoor
end
