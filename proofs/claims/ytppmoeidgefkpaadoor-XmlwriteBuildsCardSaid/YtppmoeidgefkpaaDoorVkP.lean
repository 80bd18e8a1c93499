/- Packed from the texts WrJ WrK. -/
import Derived.Test.YtppmoeidgefkpaaDoorVBldr
import Derived.Test.YtppmoeidgefkpaaDoorVkC
import Derived.Test.YtppmoeidgefkpaaDoorVkO
import Derived.Deep.RegionLaw
section
namespace Go.Proofs.YtppmoeidgefkpaaDoor
open Go.RowKit
def pairsP : List ByteArray → List AttrD
  | a :: b :: r => ⟨⟨#[]⟩, a, b, 0⟩ :: pairsP r
  | _ => []
def withP (n : NodeD) (l : List ByteArray) : NodeD := .mk n.kind n.sp n.nm (n.al ++ pairsP l) n.kids n.tx n.at'
theorem pairsP_drop (l : List ByteArray) (j : Nat) (h : j + 1 < l.length) : pairsP (l.drop j) = ⟨⟨#[]⟩, l[j], l[j + 1], 0⟩ :: pairsP (l.drop (j + 2)) := by
  rw [List.drop_eq_getElem_cons (show j < l.length by omega), List.drop_eq_getElem_cons h, pairsP]
theorem pairsP_end (l : List ByteArray) (j : Nat) (h : l.length ≤ j + 1) : pairsP (l.drop j) = [] := by
  have : (l.drop j).length ≤ 1 := by rw [List.length_drop]; omega
  generalize l.drop j = m at *
  match m, this with
  | [], _ => rfl
  | [_], _ => rfl
theorem pairsP_len : ∀ l : List ByteArray, (pairsP l).length ≤ l.length
  | [] => Nat.le_refl _
  | [_] => Nat.zero_le _
  | a :: b :: r => by
    have := pairsP_len r
    rw [pairsP]
    simp only [List.length_cons]
    omega
def StrsAt (w : World) (p : Option Addr) (l : List ByteArray) : Prop := ∀ i (h : i < l.length), ∃ a, p = some a ∧ w.cell? (a.add i) = some (.string l[i])
theorem StrsAt.below {w w' : World} {p : Option Addr} {l : List ByteArray} (h : StrsAt w p l) (hb : Below w.heap.size w w') : StrsAt w' p l := fun i hi => by
  obtain ⟨a, ha, hc⟩ := h i hi
  exact ⟨a, ha, (hb.cell (kblock_lt hc)).trans hc⟩
theorem InIs.parts {w : World} {lo hi : Nat} {n : NodeD} {v : Value} (h : InIs w lo hi n v) : ∃ pa ca pk ck, v = .agg #[.int .i64 n.kind, .string n.sp, .string n.nm, .slice pa n.al.length ca, .slice pk n.kids.length ck, .string n.tx, .int .i64 n.at'] ∧ w.ownsRow lo 37 4 (.slice pa n.al.length ca) n.al.length (attrsCells n.al) ∧ ∀ L, (∀ b ∈ L, b < lo ∨ (Value.slice pa n.al.length ca).ownBlock = some b) → KidsAt (holes w L) pk 0 n.kids := by
  obtain ⟨va, g, cs, m, rfl, hm1, hm2, hva, hvb, hg1, hg2, hB, hcs, -, hK⟩ := (in_eq w lo hi n v).1 h
  obtain ⟨pa, ca, rfl⟩ := row_val hva
  refine ⟨pa, ca, _, _, rfl, hva, fun L hL => ?_⟩
  have hgL : g ∉ L := fun e => by
    rcases hL g e with h1 | h1
    · omega
    · obtain ⟨_, _, cur, fz, hh⟩ := row_kind hva g h1
      have h2 := congrArg (fun o : Option Obj => match o with | some (.cells _ t _) => t | _ => 0) (Eq.trans (Eq.symm hB) hh)
      exact absurd (show (25 : Nat) = 37 from h2) (by decide)
  have hK' : InKids (holes w L) m hi n.kids cs.toList := InKids.same (fun k h1 _ => holes_ne w L k (fun e => by
    rcases hL k e with h2 | h2
    · omega
    · have := hvb k h2; omega)) _ _ hK
  refine fresh9_kids (B := m) n.kids cs.toList 0 g (InKids.fresh (Nat.le_refl _) _ _ hK') (fun j u hu => ?_)
  rw [show 0 * 7 + j = j by omega, holes_out (show (⟨g, j, none⟩ : Addr).block ∉ L from hgL), hB.cell]
  simpa using hu
structure WI (w : World) (B0 : Nat) (n : NodeD) (pk : Option Addr) (ck : Nat) (acc : List AttrD) (v : Value) (wr : World) : Prop where
  box : Blk wr w.heap.size #[.int .i64 n.kind, .string n.sp, .string n.nm, v, .slice pk n.kids.length ck, .string n.tx, .int .i64 n.at'] 25
  res : Blk wr (w.heap.size + 1) nodeZs 25
  row : wr.ownsRow B0 37 4 v acc.length (attrsCells acc)
  kids : KidsAt (holes wr ([w.heap.size, w.heap.size + 1] ++ v.ownBlock.toList)) pk 0 n.kids
  below : Below w.heap.size w wr
theorem WI.put {w : World} {B0 : Nat} {n : NodeD} {pk : Option Addr} {ck : Nat} {acc : List AttrD} {v v' : Value} {wr w6 : World} (h : WI w B0 n pk ck acc v wr) (x : AttrD) (hB : w.heap.size + 2 ≤ B0) (hg : wr.grownBy w6 v.ownBlock) (hr : w6.ownsRow B0 37 4 v' (acc.length + 1) (attrsCells acc ++ attrCells x)) (hnew : ∀ g, v'.ownBlock = some g → v.ownBlock = some g ∨ wr.heap.size ≤ g) :
    WI w B0 n pk ck (acc ++ [x]) v' (w6.setCell ⟨w.heap.size, 3, none⟩ v') := by
  have hlt := h.row
  have hne : ∀ k, k < B0 → v.ownBlock ≠ some k := fun k hk e => by have := (row_kind hlt k e).1; omega
  have b1 : Blk w6 w.heap.size #[.int .i64 n.kind, .string n.sp, .string n.nm, v, .slice pk n.kids.length ck, .string n.tx, .int .i64 n.at'] 25 := (hg.block _ h.box.lt (fun e => hne _ (by omega) e.symm)).trans h.box
  have b2 : Blk w6 (w.heap.size + 1) nodeZs 25 := (hg.block _ h.res.lt (fun e => hne _ (by omega) e.symm)).trans h.res
  have hgo : Goes wr ([w.heap.size, w.heap.size + 1] ++ v.ownBlock.toList) w6 ([w.heap.size, w.heap.size + 1] ++ v'.ownBlock.toList) := fun b hb1 hb2 => by
    refine ⟨fun e => ?_, hg.block b hb1 (fun e => hb2 (List.mem_append_right _ (by rw [← e]; simp)))⟩
    rcases List.mem_append.1 e with e | e
    · exact hb2 (List.mem_append_left _ e)
    have hv : v'.ownBlock = some b := by simpa using e
    rcases hnew b hv with h3 | h3
    · exact hb2 (List.mem_append_right _ (by rw [h3]; simp))
    · omega
  refine ⟨b1.set 3 v', b2.own (by show w.heap.size ≠ w.heap.size + 1; omega) _, ?_, ?_, ?_⟩
  · rw [List.length_append, List.length_singleton, attrsCells_app, show attrsCells [x] = attrCells x by simp [attrsCells]]
    exact rowSame hr (fun g hg' => Below.heap_setCell _ _ _ _ (fun e => by have := (row_kind hr g hg').1; simp only at e; omega))
  · exact KidsAt.go h.kids (hgo.trans (Goes.set (by simp) _) hg.size)
  · refine (h.below.grown hg h.below.size (fun k hk => by have := (row_kind hlt k hk).1; omega)).trans ⟨rfl, rfl, rfl, by simp [World.setCell], fun k hk => Below.heap_setCell _ _ _ _ (fun e => by simp only at e; omega)⟩
theorem WI.more {w : World} {B0 : Nat} {n : NodeD} {pk : Option Addr} {ck : Nat} {acc : List AttrD} {v : Value} {wr w' : World} (h : WI w B0 n pk ck acc v wr) (hb : Below wr.heap.size wr w') : WI w B0 n pk ck acc v w' :=
  ⟨h.box.more hb, h.res.more hb, row_below h.row hb, KidsAt.go h.kids (Goes.below hb), h.below.trans (hb.mono h.below.size)⟩
theorem attr9_news (w : World) (x : AttrD) : ∀ j u, (attrCells x)[j]? = some u → (w.alloc (.cells #[.string x.sp, .string x.nm, .string x.va, .int .i64 x.at'] 37)).drew.cell? ((⟨w.heap.size, 0, none⟩ : Addr).add j) = some u := by
  intro j u hu
  show (w.alloc _).cell? _ = _
  rw [addr_add, World.cell?_alloc_at _ _ _ _ rfl]
  simpa [attrCells] using hu
set_option maxRecDepth 100000 in
set_option maxHeartbeats 16000000 in
theorem xw_With (n : NodeD) (v : Value) (l : List ByteArray) (p : Option Addr) (c : Nat) (w : World) (hn : NodeIs w n v) (hS : StrsAt w p l) (hc : n.cnt ≤ 1000000 ∧ n.acnt ≤ 10000000) (hl : l.length ≤ 1000000) :
    Calls Tryd.prog 13 #[v, .slice p l.length c] w fun e w' => ∃ pa ca pk ck, e = .returned (.agg #[.int .i64 n.kind, .string n.sp, .string n.nm, .slice pa (n.al ++ pairsP l).length ca, .slice pk n.kids.length ck, .string n.tx, .int .i64 n.at']) ∧ NodeIs w' (withP n l) (.agg #[.int .i64 n.kind, .string n.sp, .string n.nm, .slice pa (n.al ++ pairsP l).length ca, .slice pk n.kids.length ck, .string n.tx, .int .i64 n.at']) ∧ w'.ownsRow w.heap.size 37 4 (.slice pa (n.al ++ pairsP l).length ca) (n.al ++ pairsP l).length (attrsCells (n.al ++ pairsP l)) ∧ Below w.heap.size w w' := by
  obtain ⟨i0, hi0, hi1, hi3, hi4⟩ := info_parts kinfo_attr
  have hwp : withP n l = .mk n.kind n.sp n.nm (n.al ++ pairsP l) n.kids n.tx n.at' := rfl
  obtain ⟨alx, hAL⟩ : ∃ alx, n.al ++ pairsP l = alx := ⟨_, rfl⟩
  rw [hAL] at hwp ⊢
  have Hwpx := Lib.hid hwp
  have Halx := Lib.hid hAL
  have hac := acnt_eq n
  have hal : n.al.length ≤ 10000000 := by omega
  have cC := xw_copyOf n.cnt n (Nat.le_refl _) hc.1 hc.2
  unfold CopyXAt at cC
  have hlz : (l.length : Int) ≤ 1000000 := by omega
  have hpl := pairsP_len l
  obtain ⟨pa, ca, pk, ck, rfl, -, -⟩ := (node_is w n v).1 hn
  obtain ⟨W, hW⟩ : ∃ W, W = (w.alloc (.cells #[.int .i64 n.kind, .string n.sp, .string n.nm, .slice pa n.al.length ca, .slice pk n.kids.length ck, .string n.tx, .int .i64 n.at'] 25)).alloc (.cells nodeZs 25) := ⟨_, rfl⟩
  have PH : Blk W w.heap.size #[.int .i64 n.kind, .string n.sp, .string n.nm, .slice pa n.al.length ca, .slice pk n.kids.length ck, .string n.tx, .int .i64 n.at'] 25 := by
    rw [hW]
    exact (Blk.new w _ _).more ((Below.refl _ _).alloc (Nat.le_refl _) _)
  have PR : Blk W (w.heap.size + 1) nodeZs 25 := by
    have := Blk.new (w.alloc (.cells #[.int .i64 n.kind, .string n.sp, .string n.nm, .slice pa n.al.length ca, .slice pk n.kids.length ck, .string n.tx, .int .i64 n.at'] 25)) nodeZs 25
    rw [hW]
    simpa using this
  have B1 : Below w.heap.size w W := by rw [hW]; exact ((Below.refl _ _).alloc (Nat.le_refl _) _).alloc (by simp) _
  have hz1 : w.heap.size + 2 ≤ W.heap.size := by rw [hW]; simp
  have p0 : W.cell? ⟨w.heap.size, 0, none⟩ = some (.int .i64 n.kind) := PH.cell 0
  have p1 : W.cell? ⟨w.heap.size, 1, none⟩ = some (.string n.sp) := PH.cell 1
  have p2 : W.cell? ⟨w.heap.size, 2, none⟩ = some (.string n.nm) := PH.cell 2
  have p3 : W.cell? ⟨w.heap.size, 3, none⟩ = some (.slice pa n.al.length ca) := PH.cell 3
  have p4 : W.cell? ⟨w.heap.size, 4, none⟩ = some (.slice pk n.kids.length ck) := PH.cell 4
  have p5 : W.cell? ⟨w.heap.size, 5, none⟩ = some (.string n.tx) := PH.cell 5
  have p6 : W.cell? ⟨w.heap.size, 6, none⟩ = some (.int .i64 n.at') := PH.cell 6
  have c1 := cC _ W (hn.below B1)
  have HPH := Lib.hid PH
  have HPR := Lib.hid PR
  have HB1 := Lib.hid B1
  have HS := Lib.hid hS
  unfold nodeZs at hW
  clear hn hS PH PR B1 hac cC hc hwp hAL
  generalize withP n l = wpx at *
  go_enter Tryd.func13, Tryd.ntmps13
  go_upto_region 1 with fail
  simp only [← hW]
  clear hW
  go_wp2_with fail
  refine c1.mono ?_
  rintro e w2 ⟨v2, rfl, hI, b2⟩
  obtain ⟨pa2, ca2, pk2, ck2, rfl, hrow, hkids⟩ := hI.parts
  have hz2 := b2.size
  have PH2 := HPH.out.more b2
  have e0 : w2.cell? ⟨w.heap.size, 0, none⟩ = some (.int .i64 n.kind) := PH2.cell 0
  have e1 : w2.cell? ⟨w.heap.size, 1, none⟩ = some (.string n.sp) := PH2.cell 1
  have e2 : w2.cell? ⟨w.heap.size, 2, none⟩ = some (.string n.nm) := PH2.cell 2
  have e3 : w2.cell? ⟨w.heap.size, 3, none⟩ = some (.slice pa n.al.length ca) := PH2.cell 3
  have e4 : w2.cell? ⟨w.heap.size, 4, none⟩ = some (.slice pk n.kids.length ck) := PH2.cell 4
  have e5 : w2.cell? ⟨w.heap.size, 5, none⟩ = some (.string n.tx) := PH2.cell 5
  have e6 : w2.cell? ⟨w.heap.size, 6, none⟩ = some (.int .i64 n.at') := PH2.cell 6
  have f0 := PH2.fr 0
  have f1 := PH2.fr 1
  have f2 := PH2.fr 2
  have f3 := PH2.fr 3
  have f4 := PH2.fr 4
  have f5 := PH2.fr 5
  have f6 := PH2.fr 6
  have P7 := part_set7 (Part.refl (fun b => b = w.heap.size) w2) (b := w.heap.size) (.inl rfl) 0 (.int .i64 n.kind) (.string n.sp) (.string n.nm) (.slice pa2 n.al.length ca2) (.slice pk2 n.kids.length ck2) (.string n.tx) (.int .i64 n.at')
  have Q7 := blk_set7 PH2 0 (.int .i64 n.kind) (.string n.sp) (.string n.nm) (.slice pa2 n.al.length ca2) (.slice pk2 n.kids.length ck2) (.string n.tx) (.int .i64 n.at')
  have hne2 : ∀ g, (Value.slice pa2 n.al.length ca2).ownBlock = some g → W.heap.size ≤ g := fun g hg => (row_kind hrow g hg).1
  have HI0 : WI w W.heap.size n pk2 ck2 n.al (.slice pa2 n.al.length ca2) (((((((w2.setCell ⟨w.heap.size, 0, none⟩ (.int .i64 n.kind)).setCell ⟨w.heap.size, 0 + 1, none⟩ (.string n.sp)).setCell ⟨w.heap.size, 0 + 2, none⟩ (.string n.nm)).setCell ⟨w.heap.size, 0 + 3, none⟩ (.slice pa2 n.al.length ca2)).setCell ⟨w.heap.size, 0 + 4, none⟩ (.slice pk2 n.kids.length ck2)).setCell ⟨w.heap.size, 0 + 5, none⟩ (.string n.tx)).setCell ⟨w.heap.size, 0 + 6, none⟩ (.int .i64 n.at')) := by
    refine ⟨Q7, P7.blk (HPR.out.more b2) (by omega), rowSame hrow (fun g hg => P7.block g (row_kind hrow g hg).2.1 (by have := hne2 g hg; omega)), ?_, P7.below (HB1.out.trans (b2.mono (by omega))) (fun b hb => by omega) (by omega)⟩
    refine KidsAt.go (hkids ([w.heap.size, w.heap.size + 1] ++ (Value.slice pa2 n.al.length ca2).ownBlock.toList) (fun b hb => ?_)) (fun b hb hn => ⟨hn, P7.block b hb (fun e => hn (by simp [e]))⟩)
    rcases List.mem_append.1 hb with hb | hb
    · left; simp at hb; omega
    · right; simpa using hb
  have HI := Lib.hid HI0
  clear HI0 P7 Q7 hI hrow hkids PH2 p0 p1 p2 p3 p4 p5 p6 hne2 HPH HPR b2
  go_wp2
  clear e0 e1 e2 e3 e4 e5 e6 f0 f1 f2 f3 f4 f5 f6
  go_loopw [5] (fun q wr => ∃ (j : Nat) (acc : List AttrD) (pv : Option Addr) (cv : Nat), q = .int .i64 ((j : Int) + 1) ∧ j ≤ l.length + 1 ∧ acc.length ≤ 10000000 + j ∧ alx = acc ++ pairsP (l.drop j) ∧ WI w W.heap.size n pk2 ck2 acc (.slice pv acc.length cv) wr ∧ W.heap.size ≤ wr.heap.size) (fun q _ => l.length + 2 - (intOf q).toNat)
  case atStart => exact ⟨0, n.al, pa2, ca2, rfl, Nat.zero_le _, by omega, Halx.out.symm, HI.out, by simp only [World.setCell, Array.size_modify]; exact hz2⟩
  case round =>
    clear HI
    obtain ⟨j, acc, pv, cv, rfl, hj, hal2, hrel, hI, hzW⟩ := hrel
    have hzr := hI.below.size
    have HW := Lib.hid hI
    by_cases hlt : j + 1 < l.length
    · have hiz : (j : Int) + 1 < (l.length : Int) := by omega
      have hjz : (j : Int) < (l.length : Int) := by omega
      rw [pairsP_drop l j hlt] at hrel
      obtain ⟨a, rfl, s1⟩ := HS.out.below hI.below j (by omega)
      obtain ⟨a', ha', s2⟩ := HS.out.below hI.below (j + 1) hlt
      cases ha'
      obtain ⟨y1, hy1⟩ : ∃ y, l[j] = y := ⟨_, rfl⟩
      obtain ⟨y2, hy2⟩ : ∃ y, l[j + 1] = y := ⟨_, rfl⟩
      rw [hy1] at s1 hrel
      rw [hy2] at s2 hrel
      have hwj : IntKind.i64.wrap (j : Int) = (j : Int) := wrap_small _ (by omega) (by omega)
      have htj : ((j : Int) + 1).toNat = j + 1 := by omega
      have hwj2 : IntKind.i64.wrap ((j : Int) + 1 + 2) = (j : Int) + 1 + 2 := wrap_small _ (by omega) (by omega)
      have HR := Lib.hid (show alx = (acc ++ [⟨⟨#[]⟩, y1, y2, 0⟩]) ++ pairsP (l.drop (j + 2)) by rw [hrel, List.append_assoc]; rfl)
      have g3 : wr.drew.cell? ⟨w.heap.size, 3, none⟩ = some (.slice pv acc.length cv) := hI.box.cell 3
      have g3a : ∀ o, (wr.alloc o).drew.cell? ⟨w.heap.size, 3, none⟩ = some (.slice pv acc.length cv) := fun o => (hI.box.more ((Below.refl _ _).alloc (Nat.le_refl _) o)).cell 3
      have hj0 : (0 : Int) ≤ (j : Int) + 1 := by omega
      have hadd : a.add (j + 1) = ⟨a.block, a.off + (j + 1), none⟩ := by unfold Addr.add; rw [if_neg (by omega)]
      rw [hadd] at s2
      have s1d : wr.drew.cell? (a.add j) = some (.string y1) := s1
      have s2d : wr.drew.cell? ⟨a.block, a.off + (j + 1), none⟩ = some (.string y2) := s2
      have s1a : ∀ o, (wr.alloc o).drew.cell? (a.add j) = some (.string y1) := fun o => cell_alloc s1 o
      have s2a : ∀ o, (wr.alloc o).drew.cell? ⟨a.block, a.off + (j + 1), none⟩ = some (.string y2) := fun o => cell_alloc s2 o
      have hIA : ∀ o, WI w W.heap.size n pk2 ck2 acc (.slice pv acc.length cv) (wr.alloc o).drew := fun o => hI.more ((Below.refl _ _).alloc (Nat.le_refl _) o).drew
      have HIA := Lib.hid hIA
      have hown1 : ∀ o, (wr.alloc o).drew.ownsRow W.heap.size 37 4 (.slice pv acc.length cv) acc.length (attrsCells acc) := fun o => (hIA o).row
      have hpost : ∀ o w6, (wr.alloc o).drew.grownBy w6 (Value.slice pv acc.length cv).ownBlock → w6.cell? ⟨w.heap.size, 3, none⟩ = some (.slice pv acc.length cv) ∧ w6.frozen? ⟨w.heap.size, 3, none⟩ = false := fun o w6 hg => by
        have hb : Blk w6 w.heap.size #[.int .i64 n.kind, .string n.sp, .string n.nm, .slice pv acc.length cv, .slice pk2 n.kids.length ck2, .string n.tx, .int .i64 n.at'] 25 := (hg.block _ (hIA o).box.lt (fun e => by have := (row_kind (hIA o).row _ e.symm).1; omega)).trans (hIA o).box
        exact ⟨hb.cell 3, hb.fr 3⟩
      have hBz : ∀ o, W.heap.size ≤ (wr.alloc o).drew.heap.size := fun o => by
        show W.heap.size ≤ (wr.alloc o).heap.size
        rw [World.size_alloc]
        omega
      clear hI hrel hy1 hy2 hIA hadd
      go_wp2
      go_region_law ((refine step_append_lies _ rfl (.tmp 15) (.tmp 26) 22 rfl W.heap.size 37 i0 (.agg #[.string ⟨#[]⟩, .string ⟨#[]⟩, .string ⟨#[]⟩, .int .i64 0]) 4 56 Tryd.underlying22 hi0 hi1 hi3 hi4 rfl (by decide) (.slice pv acc.length cv) acc.length (attrsCells acc) (by simp [Act.eval]) (hown1 _) ⟨wr.heap.size, 0, none⟩ 1 1 (attrCells ⟨⟨#[]⟩, y1, y2, 0⟩) (by simp [Act.eval]) rfl (attr9_news wr ⟨⟨#[]⟩, y1, y2, 0⟩) (attr_one _) (by decide) (by unfold maxLen; omega) (by omega) (hBz _) (wr.heap.size + 1) (by simp) ?_; intro g cap w6 hown6 hgr6 hat6 hlt6; obtain ⟨c6, f6⟩ := hpost _ w6 hgr6))
      all_goals
        have hz6 := hgr6.size
        have HN := Lib.hid ((HIA.out _).put ⟨⟨#[]⟩, y1, y2, 0⟩ hz1 hgr6 hown6 (fun g' hg' => by
          rcases hat6 with h | h
          · left; rw [h]; simpa [Value.ownBlock] using hg'
          · right; simp [Value.ownBlock] at hg'; show (wr.alloc _).heap.size ≤ g'; rw [World.size_alloc]; omega))
        have hzN : W.heap.size ≤ (w6.setCell ⟨w.heap.size, 3, none⟩ (.slice (some ⟨g, 0, none⟩) (acc.length + 1) cap)).heap.size := by
          simp only [World.setCell, Array.size_modify]
          exact Nat.le_trans (hBz _) hz6
        clear hown6 hgr6 hat6 hlt6 c6 f6 g3 g3a s1d s2d s1a s2a hown1 hpost hBz HIA HW
        go_wp2
        go_roundw
        case rel => exact ⟨j + 2, acc ++ [⟨⟨#[]⟩, y1, y2, 0⟩], some ⟨g, 0, none⟩, cap, by go_num, by omega, by rw [List.length_append, List.length_singleton]; omega, HR.out, by rw [List.length_append, List.length_singleton]; exact HN.out, hzN⟩
        case measure => simp [intOf]; omega
    · have hiz : ¬ (j : Int) + 1 < (l.length : Int) := by omega
      rw [pairsP_end l j (by omega), List.append_nil] at hrel
      subst hrel
      have d0 : wr.cell? ⟨w.heap.size, 0, none⟩ = some (.int .i64 n.kind) := hI.box.cell 0
      have d1 : wr.cell? ⟨w.heap.size, 1, none⟩ = some (.string n.sp) := hI.box.cell 1
      have d2 : wr.cell? ⟨w.heap.size, 2, none⟩ = some (.string n.nm) := hI.box.cell 2
      have d3 : wr.cell? ⟨w.heap.size, 3, none⟩ = some (.slice pv alx.length cv) := hI.box.cell 3
      have d4 : wr.cell? ⟨w.heap.size, 4, none⟩ = some (.slice pk2 n.kids.length ck2) := hI.box.cell 4
      have d5 : wr.cell? ⟨w.heap.size, 5, none⟩ = some (.string n.tx) := hI.box.cell 5
      have d6 : wr.cell? ⟨w.heap.size, 6, none⟩ = some (.int .i64 n.at') := hI.box.cell 6
      obtain ⟨⟨r0, r1, r2, r3, r4, r5, r6⟩, k0, k1, k2, k3, k4, k5, k6⟩ := hI.res.seven
      have hfin : ∀ W' : World, Part (fun b => b = w.heap.size + 1) wr W' → NodeIs W' (wpx) (.agg #[.int .i64 n.kind, .string n.sp, .string n.nm, .slice pv alx.length cv, .slice pk2 n.kids.length ck2, .string n.tx, .int .i64 n.at']) ∧ W'.ownsRow w.heap.size 37 4 (.slice pv alx.length cv) alx.length (attrsCells alx) ∧ Below w.heap.size w W' := by
        intro W' hW'
        have hr : W'.ownsRow W.heap.size 37 4 (.slice pv alx.length cv) alx.length (attrsCells alx) := rowSame hI.row (fun g hg => hW'.block g (row_kind hI.row g hg).2.1 (by have := (row_kind hI.row g hg).1; omega))
        refine ⟨?_, Go.Joins.ownsRow_le hr (by omega), hW'.below hI.below (fun b hb => by omega) (by omega)⟩
        rw [Hwpx.out, NodeIs]
        refine ⟨pv, cv, pk2, ck2, rfl, attrs_of_row hr, ?_⟩
        exact KidsAt.full (KidsAt.go hI.kids fun b hb hn => ⟨hn, hW'.block b hb (fun e => hn (by simp [e]))⟩)
      have HF := Lib.hid hfin
      clear hfin hI HW
      go_wp2
      exact bodyPost_ret (v := .agg #[.int .i64 n.kind, .string n.sp, .string n.nm, .slice pv alx.length cv, .slice pk2 n.kids.length ck2, .string n.tx, .int .i64 n.at']) (by simp [results, Tryd.results13, go_sem, cell_set_same, r0, r1, r2, r3, r4, r5, r6]) rfl ⟨pv, cv, pk2, ck2, rfl, HF.out _ (part_set7 (Part.refl (fun b => b = w.heap.size + 1) wr) (b := w.heap.size + 1) (.inl rfl) 0 _ _ _ _ _ _ _)⟩
end Go.Proofs.YtppmoeidgefkpaaDoor
end
section
namespace Go.Proofs.YtppmoeidgefkpaaDoor
open Go.RowKit
theorem bld9_WriteString (B b : Nat) (l : List UInt8) (s : ByteArray) (w : World) (h : Bld B b l w) (hlen : l.length + s.size ≤ 140737488355328) (hBw : B ≤ w.heap.size) :
    Calls Tryd.prog 21 #[.pointer (some ⟨b, 0, none⟩), .string s] w fun e w' => e = .returned (.tuple #[.int .i64 s.size, .nilIface]) ∧ Bld B b (l ++ s.data.toList) w' ∧ Below B w w' ∧ Lib.OthersKept 5 (some b) w w' := by
  refine (Any.Builder_WriteString_k bld_lays166 bld_extra B b (Lib.byteCells l) s w h (by rw [Lib.byteCells_length]; exact hlen) hBw).mono ?_
  rintro e w' ⟨he, h1, h2, h3⟩
  refine ⟨he, ?_, h2, h3⟩
  unfold Bld
  rw [Lib.byteCells_append, ← bld_cells]
  exact .inr h1
set_option maxRecDepth 100000 in
theorem xw_escText (s : ByteArray) (w : World) (hs : s.size ≤ 1000000) : Calls Tryd.prog 23 #[.string s] w fun e w' => e = .returned (.string (ofBytes (escP false s.data.toList))) ∧ Below w.heap.size w w' := by
  have c1 : ∀ wx, _ := fun wx => esc_escape_false s wx hs
  generalize ofBytes (escP false s.data.toList) = E at *
  go_enter Tryd.func23, Tryd.ntmps23
  go_wp2_with fail
  refine (c1 _).mono ?_
  rintro e w1 ⟨rfl, b1⟩
  go_wp2
  go_ret
  exact ⟨rfl, b1⟩
set_option maxRecDepth 100000 in
theorem xw_escAttr (s : ByteArray) (w : World) (hs : s.size ≤ 1000000) : Calls Tryd.prog 24 #[.string s] w fun e w' => e = .returned (.string (ofBytes (escP true s.data.toList))) ∧ Below w.heap.size w w' := by
  have c1 : ∀ wx, _ := fun wx => esc_escape_true s wx hs
  generalize ofBytes (escP true s.data.toList) = E at *
  go_enter Tryd.func24, Tryd.ntmps24
  go_wp2_with fail
  refine (c1 _).mono ?_
  rintro e w1 ⟨rfl, b1⟩
  go_wp2
  go_ret
  exact ⟨rfl, b1⟩
theorem Blk.kept {w w' : World} {k ob : Nat} {cs : Array Value} {T : TypeId} (h : Blk w k cs T) (hk : Lib.OthersKept 5 (some ob) w w') (hne : k ≠ ob) (hT : T ≠ 5) : Blk w' k cs T :=
  hk k _ h (fun e => hne (Option.some.inj e)) (fun c fz e => hT (by injection e))
structure Wrt (ob : Nat) (w w' : World) : Prop where
  below : Below ob w w'
  kept : Lib.OthersKept 5 (some ob) w w'
theorem Wrt.refl (ob : Nat) (w : World) : Wrt ob w w := ⟨Below.refl _ _, Lib.OthersKept.refl _ _ _⟩
theorem Wrt.trans {ob : Nat} {a b c : World} (h : Wrt ob a b) (k : Wrt ob b c) : Wrt ob a c := ⟨h.below.trans k.below, h.kept.trans k.kept⟩
theorem Wrt.of {ob : Nat} {w w' : World} (h : Below w.heap.size w w') (hz : ob ≤ w.heap.size) : Wrt ob w w' :=
  ⟨h.mono hz, fun k _ hk _ _ => (h.block k (Array.getElem?_eq_some_iff.1 hk).1).trans hk⟩
theorem Wrt.blk {ob : Nat} {w w' : World} (h : Wrt ob w w') {k : Nat} {cs : Array Value} {T : TypeId} (hb : Blk w k cs T) (hne : k ≠ ob) (hT : T ≠ 5) : Blk w' k cs T := hb.kept h.kept hne hT
def strVs (l : List ByteArray) : Array Value := (l.map Value.string).toArray
def catB : List ByteArray → List UInt8
  | [] => []
  | a :: r => a.data.toList ++ catB r
theorem catB_drop (l : List ByteArray) (i : Nat) (h : i < l.length) : catB (l.drop i) = l[i].data.toList ++ catB (l.drop (i + 1)) := by rw [List.drop_eq_getElem_cons h, catB]
set_option maxRecDepth 100000 in
set_option maxHeartbeats 8000000 in
theorem xw_put (ob sb : Nat) (l : List UInt8) (parts : List ByteArray) (c : Nat) (w : World) (hB : Bld ob ob l w) (hS : Blk w sb (strVs parts) 9) (hne : sb ≠ ob) (hlen : l.length + (catB parts).length ≤ 100000000) (hn : parts.length ≤ 1000) (hz : ob ≤ w.heap.size) :
    Calls Tryd.prog 20 #[.slice (some ⟨sb, 0, none⟩) parts.length c, .pointer (some ⟨ob, 0, none⟩)] w fun e w' => e = .returned (.tuple #[]) ∧ Bld ob ob (l ++ catB parts) w' ∧ Wrt ob w w' := by
  have hpl : (parts.length : Int) ≤ 1000 := by omega
  have HS := Lib.hid hS
  have HL := Lib.hid hlen
  have hcl : ∀ i, (catB (parts.drop i)).length ≤ (catB parts).length := fun i => by
    induction i with
    | zero => exact Nat.le_refl _
    | succ i ih =>
      by_cases hi : i < parts.length
      · rw [catB_drop parts i hi, List.length_append] at ih; omega
      · rw [List.drop_eq_nil_of_le (by omega)]; exact Nat.zero_le _
  have H0 := Lib.hid hB
  clear hB hS hlen
  go_enter Tryd.func20, Tryd.ntmps20
  go_wp2
  go_loopw [7] (fun q wr => ∃ (i : Nat) (acc : List UInt8), i ≤ parts.length ∧ q = .int .i64 i ∧ l ++ catB parts = acc ++ catB (parts.drop i) ∧ Bld ob ob acc wr ∧ Wrt ob w wr) (fun q _ => parts.length - (intOf q).toNat)
  case atStart => exact ⟨0, l, Nat.zero_le _, rfl, rfl, H0.out, Wrt.refl _ _⟩
  case round =>
    clear H0
    obtain ⟨i, acc, hi, rfl, hrel, hB, hW⟩ := hrel
    have hzr : ob ≤ wr.heap.size := by have := hW.below.size; omega
    by_cases hlt : i < parts.length
    · have hiz : (i : Int) < (parts.length : Int) := by omega
      rw [catB_drop parts i hlt] at hrel
      have hc : wr.cell? ⟨sb, i, none⟩ = some (.string parts[i]) := by
        rw [(hW.blk HS.out hne (by decide)).cell]
        simp [strVs, hlt]
      obtain ⟨s, hs⟩ : ∃ s, parts[i] = s := ⟨_, rfl⟩
      rw [hs] at hrel hc
      have hle := congrArg List.length hrel
      simp only [List.length_append] at hle
      rw [blen] at hle
      have c1 := bld9_WriteString ob ob acc s wr hB (by have := HL.out; omega) hzr
      have HR := Lib.hid (show l ++ catB parts = (acc ++ s.data.toList) ++ catB (parts.drop (i + 1)) by rw [hrel, List.append_assoc])
      have HW := Lib.hid hW
      clear hrel hs hB hW hle hcl
      go_wp2_with fail
      refine c1.mono ?_
      rintro e w2 ⟨rfl, B2, b2, k2⟩
      have HN := Lib.hid (HW.out.trans ⟨b2, k2⟩)
      have HB := Lib.hid B2
      clear B2 b2 k2
      go_wp2
      go_roundw
      case rel => exact ⟨i + 1, acc ++ s.data.toList, by omega, by go_num, HR.out, HB.out, HN.out⟩
      case measure => simp [intOf]; omega
    · obtain rfl : i = parts.length := by omega
      have hiz : ¬ (parts.length : Int) < (parts.length : Int) := by omega
      have HE := Lib.hid (show Bld ob ob (l ++ catB parts) wr by rw [hrel, List.drop_eq_nil_of_le (Nat.le_refl _), catB, List.append_nil]; exact hB)
      clear hrel hB hcl
      go_wp2
      go_end0
      exact ⟨rfl, HE.out, hW⟩
end Go.Proofs.YtppmoeidgefkpaaDoor
end
