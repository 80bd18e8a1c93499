/- Packed from the texts WsB WsC. -/
import Derived.Test.YtppmoeidgefkpaaDoorVkF
import Derived.Test.YtppmoeidgefkpaaDoorVkL
import Derived.Test.YtppmoeidgefkpaaDoorVkP
import Derived.Test.YtppmoeidgefkpaaDoorVkR
section
namespace Go.Proofs.YtppmoeidgefkpaaDoor
open Go.RowKit
structure WJ (w : World) (B0 : Nat) (cs : Array Value) (acc : List AttrD) (v : Value) (wr : World) : Prop where
  box : Blk wr w.heap.size cs 25
  res : Blk wr (w.heap.size + 1) nodeZs 25
  row : wr.ownsRow B0 37 4 v acc.length (attrsCells acc)
  below : Below w.heap.size w wr
theorem WJ.put {w : World} {B0 : Nat} {cs : Array Value} {acc new : List AttrD} {v v' : Value} {wr w6 : World} {m : Nat} (h : WJ w B0 cs acc v wr) (hm : m = acc.length + new.length) (hB : w.heap.size + 2 ≤ B0) (hg : wr.grownBy w6 v.ownBlock) (hr : w6.ownsRow B0 37 4 v' m (attrsCells acc ++ attrsCells new)) :
    WJ w B0 cs (acc ++ new) v' w6 := by
  subst hm
  have hlt := h.row
  have hne : ∀ k, k < B0 → v.ownBlock ≠ some k := fun k hk e => by have := (row_kind hlt k e).1; omega
  refine ⟨(hg.block _ h.box.lt (fun e => hne _ (by omega) e.symm)).trans h.box, (hg.block _ h.res.lt (fun e => hne _ (by omega) e.symm)).trans h.res, ?_, h.below.grown hg h.below.size (fun k hk => by have := (row_kind hlt k hk).1; omega)⟩
  rw [List.length_append, attrsCells_app]
  exact hr
theorem WJ.more {w : World} {B0 : Nat} {cs : Array Value} {acc : List AttrD} {v : Value} {wr w' : World} (h : WJ w B0 cs acc v wr) (hb : Below wr.heap.size wr w') : WJ w B0 cs acc v w' :=
  ⟨h.box.more hb, h.res.more hb, row_below h.row hb, h.below.trans (hb.mono h.below.size)⟩
theorem attrs_clen : ∀ l : List AttrD, (attrsCells l).length = l.length * 4
  | [] => rfl
  | x :: r => by
    have := attrs_clen r
    rw [show attrsCells (x :: r) = attrCells x ++ attrsCells r by simp [attrsCells], List.length_append, this, List.length_cons]
    simp [attrCells]; omega
set_option maxRecDepth 100000 in
set_option maxHeartbeats 16000000 in
theorem wref_With (n : NodeD) (v : Value) (l : List ByteArray) (p : Option Addr) (c : Nat) (w : World) (hn : NodeIs w n v) (hS : StrsAt w p l) (h1 : 0 < n.al.length) (hal : n.al.length ≤ 10000000) (hl : l.length ≤ 1000000) :
    Calls Tryd.prog 16 #[v, .slice p l.length c] w fun e w' => ∃ v', e = .returned v' ∧ NodeIs w' (withP n l) v' ∧ Below w.heap.size w w' := by
  obtain ⟨i0, hi0, hi1, hi3, hi4⟩ := info_parts kinfo_attr
  have hwp : withP n l = .mk n.kind n.sp n.nm (n.al ++ pairsP l) n.kids n.tx n.at' := rfl
  obtain ⟨alx, hAL⟩ : ∃ alx, n.al ++ pairsP l = alx := ⟨_, rfl⟩
  rw [hAL] at hwp
  have Hwpx := Lib.hid hwp
  have Halx := Lib.hid hAL
  have hlz : (l.length : Int) ≤ 1000000 := by omega
  have hpl := pairsP_len l
  obtain ⟨pa, ca, pk, ck, rfl, hA, hK⟩ := (node_is w n v).1 hn
  obtain ⟨a0, rfl⟩ : ∃ a, pa = some a := by obtain ⟨a, ha, _⟩ := hA 0 h1; exact ⟨a, ha⟩
  obtain ⟨W, hW⟩ : ∃ W, W = (w.alloc (.cells #[.int .i64 n.kind, .string n.sp, .string n.nm, .slice (some a0) n.al.length ca, .slice pk n.kids.length ck, .string n.tx, .int .i64 n.at'] 25)).alloc (.cells nodeZs 25) := ⟨_, rfl⟩
  have PH : Blk W w.heap.size #[.int .i64 n.kind, .string n.sp, .string n.nm, .slice (some a0) n.al.length ca, .slice pk n.kids.length ck, .string n.tx, .int .i64 n.at'] 25 := by
    rw [hW]
    exact (Blk.new w _ _).more ((Below.refl _ _).alloc (Nat.le_refl _) _)
  have PR : Blk W (w.heap.size + 1) nodeZs 25 := by
    have := Blk.new (w.alloc (.cells #[.int .i64 n.kind, .string n.sp, .string n.nm, .slice (some a0) n.al.length ca, .slice pk n.kids.length ck, .string n.tx, .int .i64 n.at'] 25)) nodeZs 25
    rw [hW]
    simpa using this
  have B1 : Below w.heap.size w W := by rw [hW]; exact ((Below.refl _ _).alloc (Nat.le_refl _) _).alloc (by simp) _
  have hz1 : w.heap.size + 2 ≤ W.heap.size := by rw [hW]; simp
  have p3 : W.cell? ⟨w.heap.size, 3, none⟩ = some (.slice (some a0) n.al.length ca) := PH.cell 3
  have p3a : ∀ o, (W.alloc o).cell? ⟨w.heap.size, 3, none⟩ = some (.slice (some a0) n.al.length ca) := fun o => cell_alloc p3 o
  have hWz : ∀ o, (W.alloc o).heap.size = W.heap.size + 1 := fun o => by simp
  have hnw : ∀ j u, (attrsCells n.al)[j]? = some u → (W.alloc (.cells #[] 37)).cell? (a0.add j) = some u := attrs_news (AttrsAt.below (AttrsAt.below hA B1) ((Below.refl _ _).alloc (Nat.le_refl _) _))
  have hown0 : (W.alloc (.cells #[] 37)).ownsRow W.heap.size 37 4 (.slice (some ⟨W.heap.size, 0, none⟩) 0 0) 0 [] := World.ownsRow_made W #[] 0 (Nat.le_refl _) (by decide) rfl
  have HJ0 : WJ w W.heap.size #[.int .i64 n.kind, .string n.sp, .string n.nm, .slice (some a0) n.al.length ca, .slice pk n.kids.length ck, .string n.tx, .int .i64 n.at'] [] (.slice (some ⟨W.heap.size, 0, none⟩) 0 0) (W.alloc (.cells #[] 37)) :=
    ⟨PH.more ((Below.refl _ _).alloc (Nat.le_refl _) _), PR.more ((Below.refl _ _).alloc (Nat.le_refl _) _), hown0, B1.alloc (by omega) _⟩
  have HJ := Lib.hid HJ0
  have HS := Lib.hid hS
  have HKD := Lib.hid hK
  have HB1 := Lib.hid B1
  have hacl := attrs_clen n.al
  unfold nodeZs at hW
  clear hn hS PH PR B1 hwp hAL HJ0 hA hK
  generalize withP n l = wpx at *
  go_enter Tryd.func16, Tryd.ntmps16
  go_upto_region 1 with fail
  simp only [← hW]
  clear hW
  go_wp2_with (at_builtin; refine wpList_append_lies _ rfl (.tmp 7) (.tmp 9) 22 rfl W.heap.size 37 i0 (.agg #[.string ⟨#[]⟩, .string ⟨#[]⟩, .string ⟨#[]⟩, .int .i64 0]) 4 56 Tryd.underlying22 hi0 hi1 hi3 hi4 rfl (by decide) (.slice (some ⟨W.heap.size, 0, none⟩) 0 0) 0 [] rfl hown0 a0 n.al.length ca (attrsCells n.al) rfl hacl hnw (attrs_one _) h1 (by unfold maxLen; omega) (by omega) (by rw [hWz]; omega) (W.heap.size + 1) (by simp) ?_; intro g cap w6 hown6 hgr6 hat6 hlt6)
  have hown6' : w6.ownsRow W.heap.size 37 4 (.slice (some ⟨g, 0, none⟩) (0 + n.al.length) cap) (0 + n.al.length) (attrsCells [] ++ attrsCells n.al) := hown6
  have HJ1 := HJ.out.put (new := n.al) (by simp) hz1 hgr6 hown6'
  rw [Nat.zero_add, List.nil_append] at HJ1
  have HJ1 := Lib.hid HJ1
  have hz6 : W.heap.size ≤ w6.heap.size := by have := hgr6.size; rw [hWz] at this; omega
  clear hown6 hown6' hgr6 hat6 hlt6 hown0 hnw HJ p3a p3 hacl
  go_wp2
  go_loopw [5, 6] (fun v q wr => ∃ (j : Nat) (acc : List AttrD) (pv : Option Addr) (cv : Nat), q = .int .i64 (j : Int) ∧ v = .slice pv acc.length cv ∧ j ≤ l.length + 1 ∧ acc.length ≤ 10000000 + j ∧ alx = acc ++ pairsP (l.drop j) ∧ WJ w W.heap.size #[.int .i64 n.kind, .string n.sp, .string n.nm, .slice (some a0) n.al.length ca, .slice pk n.kids.length ck, .string n.tx, .int .i64 n.at'] acc (.slice pv acc.length cv) wr ∧ W.heap.size ≤ wr.heap.size) (fun _ q _ => l.length + 2 - (RowKit.intOf q).toNat)
  case atStart => exact ⟨0, n.al, some ⟨g, 0, none⟩, cap, rfl, rfl, Nat.zero_le _, by omega, Halx.out.symm, HJ1.out, hz6⟩
  case round =>
    clear HJ1 hz6
    obtain ⟨j, acc, pv, cv, rfl, rfl, hj, hal2, hrel, hI, hzW⟩ := hrel
    have hzr := hI.below.size
    have HW := Lib.hid hI
    by_cases hlt : j + 1 < l.length
    · have hiz : (j : Int) + 1 < (l.length : Int) := by omega
      have hjz : (j : Int) < (l.length : Int) := by omega
      rw [pairsP_drop l j hlt] at hrel
      obtain ⟨a, rfl, s1⟩ := HS.out.below hI.below j (by omega)
      obtain ⟨a', ha', s2⟩ := HS.out.below hI.below (j + 1) hlt
      cases ha'
      obtain ⟨y1, hy1⟩ : ∃ y, l[j] = y := ⟨_, rfl⟩
      obtain ⟨y2, hy2⟩ : ∃ y, l[j + 1] = y := ⟨_, rfl⟩
      rw [hy1] at s1 hrel
      rw [hy2] at s2 hrel
      have hwj : IntKind.i64.wrap (j : Int) = (j : Int) := wrap_small _ (by omega) (by omega)
      have htj : ((j : Int) + 1).toNat = j + 1 := by omega
      have hwj1 : IntKind.i64.wrap ((j : Int) + 1) = (j : Int) + 1 := wrap_small _ (by omega) (by omega)
      have hwj2 : IntKind.i64.wrap ((j : Int) + 2) = (j : Int) + 2 := wrap_small _ (by omega) (by omega)
      have HR := Lib.hid (show alx = (acc ++ [⟨⟨#[]⟩, y1, y2, 0⟩]) ++ pairsP (l.drop (j + 2)) by rw [hrel, List.append_assoc]; rfl)
      have hj0 : (0 : Int) ≤ (j : Int) + 1 := by omega
      have hadd : a.add (j + 1) = ⟨a.block, a.off + (j + 1), none⟩ := by unfold Addr.add; rw [if_neg (by omega)]
      rw [hadd] at s2
      have s1d : wr.drew.cell? (a.add j) = some (.string y1) := s1
      have s2d : wr.drew.cell? ⟨a.block, a.off + (j + 1), none⟩ = some (.string y2) := s2
      have s1a : ∀ o, (wr.alloc o).drew.cell? (a.add j) = some (.string y1) := fun o => cell_alloc s1 o
      have s2a : ∀ o, (wr.alloc o).drew.cell? ⟨a.block, a.off + (j + 1), none⟩ = some (.string y2) := fun o => cell_alloc s2 o
      have hIA : ∀ o, WJ w W.heap.size #[.int .i64 n.kind, .string n.sp, .string n.nm, .slice (some a0) n.al.length ca, .slice pk n.kids.length ck, .string n.tx, .int .i64 n.at'] acc (.slice pv acc.length cv) (wr.alloc o).drew := fun o => hI.more ((Below.refl _ _).alloc (Nat.le_refl _) o).drew
      have HIA := Lib.hid hIA
      have hown1 : ∀ o, (wr.alloc o).drew.ownsRow W.heap.size 37 4 (.slice pv acc.length cv) acc.length (attrsCells acc) := fun o => (hIA o).row
      have hBz : ∀ o, W.heap.size ≤ (wr.alloc o).drew.heap.size := fun o => by
        show W.heap.size ≤ (wr.alloc o).heap.size
        rw [World.size_alloc]
        omega
      clear hI hrel hy1 hy2 hIA hadd
      go_wp2
      go_region_law ((refine step_append_lies _ rfl (.tmp 18) (.tmp 29) 22 rfl W.heap.size 37 i0 (.agg #[.string ⟨#[]⟩, .string ⟨#[]⟩, .string ⟨#[]⟩, .int .i64 0]) 4 56 Tryd.underlying22 hi0 hi1 hi3 hi4 rfl (by decide) (.slice pv acc.length cv) acc.length (attrsCells acc) (by simp [Act.eval]) (hown1 _) ⟨wr.heap.size, 0, none⟩ 1 1 (attrCells ⟨⟨#[]⟩, y1, y2, 0⟩) (by simp [Act.eval]) rfl (attr9_news wr ⟨⟨#[]⟩, y1, y2, 0⟩) (attr_one _) (by decide) (by unfold maxLen; omega) (by omega) (hBz _) (wr.heap.size + 1) (by simp) ?_; intro g' cap' w7 hown7 hgr7 hat7 hlt7))
      all_goals
        have hz7 := hgr7.size
        have hown8 : w7.ownsRow W.heap.size 37 4 (.slice (some ⟨g', 0, none⟩) (acc.length + 1) cap') (acc.length + 1) (attrsCells acc ++ attrsCells [⟨⟨#[]⟩, y1, y2, 0⟩]) := by
          rw [show attrsCells [⟨⟨#[]⟩, y1, y2, 0⟩] = attrCells ⟨⟨#[]⟩, y1, y2, 0⟩ by simp [attrsCells]]
          exact hown7
        have HN := Lib.hid ((HIA.out _).put (new := [⟨⟨#[]⟩, y1, y2, 0⟩]) (by simp) hz1 hgr7 hown8)
        have hzN : W.heap.size ≤ w7.heap.size := Nat.le_trans (hBz _) hz7
        clear hown7 hown8 hgr7 hat7 hlt7 s1d s2d s1a s2a hown1 hBz HIA HW
        go_wp2
        go_roundw
        case rel => exact ⟨j + 2, acc ++ [⟨⟨#[]⟩, y1, y2, 0⟩], some ⟨g', 0, none⟩, cap', by go_num, by rw [List.length_append, List.length_singleton], by omega, by rw [List.length_append, List.length_singleton]; omega, HR.out, by rw [List.length_append, List.length_singleton]; exact HN.out, hzN⟩
        case measure => simp [RowKit.intOf]; omega
    · have hiz : ¬ (j : Int) + 1 < (l.length : Int) := by omega
      rw [pairsP_end l j (by omega), List.append_nil] at hrel
      subst hrel
      have d0 : wr.cell? ⟨w.heap.size, 0, none⟩ = some (.int .i64 n.kind) := hI.box.cell 0
      have d1 : wr.cell? ⟨w.heap.size, 1, none⟩ = some (.string n.sp) := hI.box.cell 1
      have d2 : wr.cell? ⟨w.heap.size, 2, none⟩ = some (.string n.nm) := hI.box.cell 2
      have d3 : wr.cell? ⟨w.heap.size, 3, none⟩ = some (.slice (some a0) n.al.length ca) := hI.box.cell 3
      have d4 : wr.cell? ⟨w.heap.size, 4, none⟩ = some (.slice pk n.kids.length ck) := hI.box.cell 4
      have d5 : wr.cell? ⟨w.heap.size, 5, none⟩ = some (.string n.tx) := hI.box.cell 5
      have d6 : wr.cell? ⟨w.heap.size, 6, none⟩ = some (.int .i64 n.at') := hI.box.cell 6
      have k3' := hI.box.fr 3
      obtain ⟨⟨r0, r1, r2, r3, r4, r5, r6⟩, k0, k1, k2, k3, k4, k5, k6⟩ := hI.res.seven
      have hfin : ∀ W' : World, Part (fun b => b = w.heap.size ∨ b = w.heap.size + 1) wr W' → NodeIs W' wpx (.agg #[.int .i64 n.kind, .string n.sp, .string n.nm, .slice pv alx.length cv, .slice pk n.kids.length ck, .string n.tx, .int .i64 n.at']) ∧ Below w.heap.size w W' := by
        intro W' hW'
        have hr : W'.ownsRow W.heap.size 37 4 (.slice pv alx.length cv) alx.length (attrsCells alx) := rowSame hI.row (fun g hg => hW'.block g (row_kind hI.row g hg).2.1 (by have := (row_kind hI.row g hg).1; omega))
        have hbW := hW'.below hI.below (fun b hb => by omega) (by omega)
        refine ⟨?_, hbW⟩
        rw [Hwpx.out, NodeIs]
        refine ⟨pv, cv, pk, ck, rfl, attrs_of_row hr, ?_⟩
        exact KidsAt.mono (fun a u hc => (hbW.cell (by rcases Nat.lt_or_ge a.block w.heap.size with h' | h'; exact h'; simp [World.cell?, Array.getElem?_eq_none h'] at hc)).trans hc) _ _ _ HKD.out
      obtain ⟨⟨u0, u1, u2, u3, u4, u5, u6⟩, -⟩ := (hI.res.own (q := ⟨w.heap.size, 3, none⟩) (by show w.heap.size ≠ w.heap.size + 1; omega) (.slice pv alx.length cv)).seven
      have HF := Lib.hid hfin
      clear hfin hI HW
      go_wp2
      exact bodyPost_ret (v := .agg #[.int .i64 n.kind, .string n.sp, .string n.nm, .slice pv alx.length cv, .slice pk n.kids.length ck, .string n.tx, .int .i64 n.at']) (by simp [results, Tryd.results16, go_sem, cell_set_same, u0, u1, u2, u3, u4, u5, u6]) rfl ⟨_, rfl, HF.out _ (part_set7 ((Part.refl (fun b => b = w.heap.size ∨ b = w.heap.size + 1) wr).set (q := ⟨w.heap.size, 3, none⟩) (.inl (.inl rfl)) _) (b := w.heap.size + 1) (.inl (.inr rfl)) 0 _ _ _ _ _ _ _)⟩
end Go.Proofs.YtppmoeidgefkpaaDoor
end
section
namespace Go.Proofs.YtppmoeidgefkpaaDoor
open Go.RowKit
mutual
theorem wt_mass9 : ∀ n : NodeD, n.wt ≤ n.mass
  | .mk k sp nm al kids tx a => by
    rw [NodeD.wt, NodeD.mass]
    have h1 := wts_mass9 kids
    have h2 : al.length ≤ (al.map fun x => 1 + x.sp.size + x.nm.size + x.va.size).sum := by
      clear h1
      induction al with
      | nil => simp
      | cons x r ih => rw [List.length_cons, List.map_cons, List.sum_cons]; omega
    omega
theorem wts_mass9 : ∀ l : List NodeD, wts l ≤ masses l
  | [] => by rw [wts, masses]; exact Nat.le_refl _
  | k :: r => by
    have h1 := wt_mass9 k
    have h2 := wts_mass9 r
    rw [wts, masses]; omega
end
theorem wts_filter9 (f : NodeD → Bool) : ∀ l : List NodeD, wts (l.filter f) ≤ wts l
  | [] => by rw [List.filter_nil]; exact Nat.le_refl _
  | k :: r => by
    have h := wts_filter9 f r
    rw [List.filter_cons]
    split
    · rw [wts, wts]; omega
    · rw [wts]; omega
def root9 (kids : List NodeD) : NodeD := .mk 0 ⟨#[]⟩ ⟨#[]⟩ [] kids ⟨#[]⟩ 0
def base9 (nm : ByteArray) : NodeD := .mk 0 ⟨#[]⟩ nm [⟨⟨#[]⟩, ⟨#[122]⟩, ⟨#[]⟩, 3⟩] [] ⟨#[116]⟩ 7
theorem root9_is {w : World} {pk : Option Addr} {ck : Nat} {kids : List NodeD} (h : KidsAt w pk 0 kids) : NodeIs w (root9 kids) (.agg #[.int .i64 0, .string ⟨#[]⟩, .string ⟨#[]⟩, .slice none 0 0, .slice pk kids.length ck, .string ⟨#[]⟩, .int .i64 0]) := by
  rw [node_is]
  exact ⟨none, 0, pk, ck, rfl, fun i hi => by simp [root9, NodeD.al] at hi, h⟩
theorem base9_is {w : World} {R : Nat} {nm : ByteArray} (h : Blk w R #[.string ⟨#[]⟩, .string ⟨#[122]⟩, .string ⟨#[]⟩, .int .i64 3] 37) : NodeIs w (base9 nm) (.agg #[.int .i64 0, .string ⟨#[]⟩, .string nm, .slice (some ⟨R, 0, none⟩) 1 1, .slice none 0 0, .string ⟨#[116]⟩, .int .i64 7]) := by
  rw [node_is]
  refine ⟨some ⟨R, 0, none⟩, 1, none, 0, rfl, fun i hi => ?_, by rw [show (base9 nm).kids = [] from rfl, KidsAt]; trivial⟩
  have : i = 0 := by simp [base9, NodeD.al] at hi; omega
  subst this
  exact ⟨_, rfl, h.cell 0, h.cell 1, h.cell 2, h.cell 3⟩
theorem attrs_va9 : ∀ (l : List AttrD) (j : Nat), j < l.length → ∃ y, (attrsCells l)[j * 4 + 2]? = some (.string y)
  | [], _, h => absurd h (by simp)
  | x :: r, 0, _ => ⟨x.va, by simp [attrsCells, attrCells]⟩
  | x :: r, j + 1, h => by
    have ih := attrs_va9 r j (by simpa using h)
    rw [show attrsCells (x :: r) = attrCells x ++ attrsCells r by simp [attrsCells], List.getElem?_append_right (by simp [attrCells]; omega), show (j + 1) * 4 + 2 - (attrCells x).length = j * 4 + 2 by simp [attrCells]; omega]
    exact ih
theorem text9_is (nm : ByteArray) (u : World) : NodeIs u (textP nm) (.agg #[.int .i64 1, .string ⟨#[]⟩, .string ⟨#[]⟩, .slice none 0 0, .slice none 0 0, .string nm, .int .i64 0]) := by
  rw [node_is]
  exact ⟨none, 0, none, 0, rfl, fun i hi => by simp [textP, NodeD.al] at hi, by rw [show (textP nm).kids = [] from rfl, KidsAt]; trivial⟩
structure WBI (w : World) (pk : Option Addr) (kids : List NodeD) (p : Option Addr) (l : List ByteArray) (nE nM : NodeD) (c7 c8 c9 : Array Value) (b7 b8 b9 R lo n : Nat) (v : Value) (xs : List Value) (u : World) : Prop where
  kds : KidsAt u pk 0 kids
  str : StrsAt u p l
  n8 : NodeIs u nE (.agg c8)
  n9 : NodeIs u nM (.agg c9)
  rw : Blk u R #[.string ⟨#[]⟩, .string ⟨#[122]⟩, .string ⟨#[]⟩, .int .i64 3] 37
  x7 : Blk u b7 c7 25
  x8 : Blk u b8 c8 25
  x9 : Blk u b9 c9 25
  row : u.ownsRow lo 37 4 v n xs
  tab : HasTabs u
  below : Below w.heap.size w u
theorem WBI.more {w : World} {pk : Option Addr} {kids : List NodeD} {p : Option Addr} {l : List ByteArray} {nE nM : NodeD} {c7 c8 c9 : Array Value} {b7 b8 b9 R lo n : Nat} {v : Value} {xs : List Value} {u u' : World} (h : WBI w pk kids p l nE nM c7 c8 c9 b7 b8 b9 R lo n v xs u) (hb : Below u.heap.size u u') : WBI w pk kids p l nE nM c7 c8 c9 b7 b8 b9 R lo n v xs u' :=
  ⟨KidsAt.below hb _ _ _ h.kds, h.str.below hb, h.n8.below hb, h.n9.below hb, h.rw.more hb, h.x7.more hb, h.x8.more hb, h.x9.more hb, row_below h.row hb, HasTabs_below h.tab hb, h.below.trans (hb.mono h.below.size)⟩
set_option maxRecDepth 100000 in
set_option maxHeartbeats 32000000 in
theorem walk_WrBuilds (nm : ByteArray) (kids : List NodeD) (pk : Option Addr) (ck : Nat) (l : List ByteArray) (p : Option Addr) (c : Nat) (w : World) (hT : HasTabs w) (hK : KidsAt w pk 0 kids) (hW : WFs kids) (hS : StrsAt w p l) (_hz : kids.length ≤ 140737488351232) :
    Calls Tryd.prog 4 #[.string nm, .slice pk kids.length ck, .slice p l.length c] w fun e w' => e = .returned (.bool true) ∧ Below w.heap.size w w' := by
  have cA : ∀ wx, HasTabs wx → _ := fun wx h => wr_alive wx h
  by_cases g1 : (500 : Int) < (nm.size : Int)
  · go_enter Tryd.func4, Tryd.ntmps4
    go_wp2_with fail
    refine (cA _ hT).mono ?_
    rintro e w2 ⟨rfl, b2⟩
    go_wp2
    go_ret
    exact ⟨rfl, b2⟩
  by_cases g2 : (20 : Int) < (kids.length : Int)
  · go_enter Tryd.func4, Tryd.ntmps4
    go_wp2_with fail
    refine (cA _ hT).mono ?_
    rintro e w2 ⟨rfl, b2⟩
    go_wp2
    go_ret
    exact ⟨rfl, b2⟩
  by_cases g3 : (20 : Int) < (l.length : Int)
  · go_enter Tryd.func4, Tryd.ntmps4
    go_wp2_with fail
    refine (cA _ hT).mono ?_
    rintro e w2 ⟨rfl, b2⟩
    go_wp2
    go_ret
    exact ⟨rfl, b2⟩
  have hRW : (root9 kids).WF := by rw [wf_eq]; exact ⟨by simp [root9, NodeD.al], by simp [root9, NodeD.kids]; omega, hW⟩
  have cL := law_TooLarge (root9 kids) _ w hRW (root9_is (ck := ck) hK)
  by_cases g4 : 5000 < (root9 kids).wgt 0
  · rw [one_yes g4] at cL
    clear g4 hRW
    go_enter Tryd.func4, Tryd.ntmps4
    go_wp2_with fail
    refine cL.mono ?_
    rintro e w1 ⟨rfl, b1⟩
    have t1 := HasTabs_below hT b1
    go_wp2_with fail
    refine (cA _ t1).mono ?_
    rintro e w2 ⟨rfl, b2⟩
    go_wp2
    go_ret
    exact ⟨rfl, b1.trans (b2.mono b1.size)⟩
  rw [one_no g4] at cL
  have hm := mass_of g4
  have hme : (root9 kids).mass = 1 + masses kids := by
    rw [mass_eq]
    show 1 + 0 + 0 + 0 + 0 + masses kids = 1 + masses kids
    omega
  have hwm := wts_mass9 kids
  have hws := wts_split kids
  have hl20 : l.length ≤ 20 := by omega
  have hk20 : kids.length ≤ 20 := by omega
  have hkc : ∀ k ∈ kids, k.cnt ≤ 1000000 ∧ k.acnt ≤ 10000000 := fun k hk => by
    have h1 := wts_mem kids k hk
    have h2 := wt_split k
    omega
  have cE : ∀ wx, KidsAt wx pk 0 kids → _ := fun wx h => xw_Elem nm kids pk ck wx h (by omega) hkc
  have cF : ∀ wx, KidsAt wx pk 0 kids → _ := fun wx h => wref_Elem nm kids pk ck wx h (by omega)
  obtain ⟨al2, hal2⟩ : ∃ al2, (base9 nm).al ++ pairsP l = al2 := ⟨_, rfl⟩
  have cW : ∀ wx v, NodeIs wx (base9 nm) v → StrsAt wx p l → Calls Tryd.prog 13 #[v, .slice p l.length c] wx fun e w' => ∃ pa ca pk ck, e = .returned (.agg #[.int .i64 0, .string ⟨#[]⟩, .string nm, .slice pa al2.length ca, .slice pk 0 ck, .string ⟨#[116]⟩, .int .i64 7]) ∧ NodeIs w' (withP (base9 nm) l) (.agg #[.int .i64 0, .string ⟨#[]⟩, .string nm, .slice pa al2.length ca, .slice pk 0 ck, .string ⟨#[116]⟩, .int .i64 7]) ∧ w'.ownsRow wx.heap.size 37 4 (.slice pa al2.length ca) al2.length (attrsCells al2) ∧ Below wx.heap.size wx w' := fun wx v h hs => by
    have := xw_With (base9 nm) v l p c wx h hs (by
      have e1 : (base9 nm).cnt = 1 := rfl
      have e2 : (base9 nm).acnt = 1 := rfl
      omega) (by omega)
    rw [hal2] at this
    exact this
  have hal3 : 1 ≤ al2.length ∧ al2.length ≤ 21 := by
    have h1 := pairsP_len l
    have h2 : (base9 nm).al.length = 1 := rfl
    rw [← hal2, List.length_append, h2]
    omega
  have cV : ∀ wx v, NodeIs wx (base9 nm) v → StrsAt wx p l → _ := fun wx v h hs => wref_With (base9 nm) v l p c wx h hs (by show 0 < 1; omega) (by show 1 ≤ 10000000; omega) (by omega)
  have hpl := pairsP_len l
  have q1 : (elemP nm kids).wt ≤ 6000 := by
    have := wts_filter9 keepB kids
    rw [wt_eq]
    simp only [elemP, NodeD.al, NodeD.kids, List.length_nil]
    omega
  have q2 : (withP (base9 nm) l).wt ≤ 6000 := by
    rw [wt_eq]
    simp only [withP, base9, NodeD.al, NodeD.kids, List.length_append, List.length_cons, List.length_nil, wts]
    omega
  have cQ1 : ∀ wx v u, NodeIs wx (elemP nm kids) v → NodeIs wx (elemP nm kids) u → _ := fun wx v u h h' => tref_Equal true (elemP nm kids).wt (elemP nm kids) (elemP nm kids) v u wx (Nat.le_refl _) (by omega) h h'
  have cQ2 : ∀ wx v u, NodeIs wx (withP (base9 nm) l) v → NodeIs wx (withP (base9 nm) l) u → _ := fun wx v u h h' => tref_Equal true (withP (base9 nm) l).wt (withP (base9 nm) l) (withP (base9 nm) l) v u wx (Nat.le_refl _) (by omega) h h'
  rw [eqB_refl] at cQ1 cQ2
  have cT : ∀ wx, _ := fun wx => xw_Text nm wx
  have cQ3 : ∀ wx v u, NodeIs wx (textP nm) v → NodeIs wx (textP nm) u → _ := fun wx v u h h' => tref_Equal true (textP nm).wt (textP nm) (textP nm) v u wx (Nat.le_refl _) (by have : (textP nm).wt = 1 := rfl; omega) h h'
  rw [eqB_refl] at cQ3
  have HT := Lib.hid hT
  have HK := Lib.hid hK
  have HS := Lib.hid hS
  have hTE : (elemP nm kids).wt = (elemP nm kids).wt := rfl
  clear hT hK hS hW hRW g4 hm hme hwm hws hkc hpl hTE q1 q2 hal2
  generalize elemP nm kids = nE at *
  generalize withP (base9 nm) l = nM at *
  have cXl : ∀ u, _ := fun u => text9_is nm u
  generalize textP nm = nX at *
  go_enter Tryd.func4, Tryd.ntmps4
  go_wp2_with fail
  refine cL.mono ?_
  rintro e w1 ⟨rfl, b1⟩
  clear cL
  obtain ⟨WB, hWB⟩ : ∃ WB, WB = (w1.alloc (.cells #[.string ⟨#[]⟩, .string ⟨#[122]⟩, .string ⟨#[]⟩, .int .i64 3] 37)).alloc (.cells #[.int .i64 0, .string ⟨#[]⟩, .string nm, .slice (some ⟨w1.heap.size, 0, none⟩) 1 1, .slice none 0 0, .string ⟨#[116]⟩, .int .i64 7] 25) := ⟨_, rfl⟩
  have PR : Blk WB w1.heap.size #[.string ⟨#[]⟩, .string ⟨#[122]⟩, .string ⟨#[]⟩, .int .i64 3] 37 := by
    rw [hWB]
    exact (Blk.new w1 _ _).more ((Below.refl _ _).alloc (Nat.le_refl _) _)
  have PB : Blk WB (w1.heap.size + 1) #[.int .i64 0, .string ⟨#[]⟩, .string nm, .slice (some ⟨w1.heap.size, 0, none⟩) 1 1, .slice none 0 0, .string ⟨#[116]⟩, .int .i64 7] 25 := by
    have := Blk.new (w1.alloc (.cells #[.string ⟨#[]⟩, .string ⟨#[122]⟩, .string ⟨#[]⟩, .int .i64 3] 37)) #[.int .i64 0, .string ⟨#[]⟩, .string nm, .slice (some ⟨w1.heap.size, 0, none⟩) 1 1, .slice none 0 0, .string ⟨#[116]⟩, .int .i64 7] 25
    rw [hWB]
    simpa using this
  have BB : Below w.heap.size w WB := by rw [hWB]; exact (b1.alloc b1.size _).alloc (by have := b1.size; simp; omega) _
  have hzB : w1.heap.size + 2 ≤ WB.heap.size := by rw [hWB]; simp
  have hz1 := b1.size
  have HPR := Lib.hid PR
  have HPB := Lib.hid PB
  have HBB := Lib.hid BB
  obtain ⟨R, hR⟩ : ∃ R, R = w1.heap.size := ⟨_, rfl⟩
  clear PR PB BB b1
  go_wp2_with fail
  rw [← hWB]
  refine (cE _ (KidsAt.below HBB.out _ _ _ HK.out)).mono ?_
  rintro e w2 ⟨v2, rfl, hn2, b2⟩
  obtain ⟨pa2, ca2, pk2, ck2, rfl⟩ := node_form hn2
  have z2 := b2.size
  obtain ⟨W2, hW2⟩ : ∃ W2, W2 = w2.alloc (.cells #[.int .i64 nE.kind, .string nE.sp, .string nE.nm, .slice pa2 nE.al.length ca2, .slice pk2 nE.kids.length ck2, .string nE.tx, .int .i64 nE.at'] 25) := ⟨_, rfl⟩
  have A2 : Below w2.heap.size w2 W2 := by rw [hW2]; exact (Below.refl _ _).alloc (Nat.le_refl _) _
  have P8 : Blk W2 w2.heap.size #[.int .i64 nE.kind, .string nE.sp, .string nE.nm, .slice pa2 nE.al.length ca2, .slice pk2 nE.kids.length ck2, .string nE.tx, .int .i64 nE.at'] 25 := by rw [hW2]; exact Blk.new w2 _ _
  have hzW2 : w2.heap.size + 1 = W2.heap.size := by rw [hW2]; simp
  have C2 := b2.trans (A2.mono z2)
  have B2 := HBB.out.trans (C2.mono HBB.out.size)
  have PR2 := HPR.out.more C2
  have PB2 := HPB.out.more C2
  have d0 : W2.cell? ⟨w1.heap.size + 1, 0, none⟩ = some (.int .i64 0) := PB2.cell 0
  have d1 : W2.cell? ⟨w1.heap.size + 1, 1, none⟩ = some (.string ⟨#[]⟩) := PB2.cell 1
  have d2 : W2.cell? ⟨w1.heap.size + 1, 2, none⟩ = some (.string nm) := PB2.cell 2
  have d3 : W2.cell? ⟨w1.heap.size + 1, 3, none⟩ = some (.slice (some ⟨w1.heap.size, 0, none⟩) 1 1) := PB2.cell 3
  have d4 : W2.cell? ⟨w1.heap.size + 1, 4, none⟩ = some (.slice none 0 0) := PB2.cell 4
  have d5 : W2.cell? ⟨w1.heap.size + 1, 5, none⟩ = some (.string ⟨#[116]⟩) := PB2.cell 5
  have d6 : W2.cell? ⟨w1.heap.size + 1, 6, none⟩ = some (.int .i64 7) := PB2.cell 6
  have H8 := Lib.hid P8
  have HN8 := Lib.hid (hn2.below A2)
  have HB2 := Lib.hid B2
  have HPR2 := Lib.hid PR2
  have HPB2 := Lib.hid PB2
  clear P8 hn2 A2 b2 C2 B2 PR2 PB2 HPR HPB HBB cE
  go_upto_region 5 with fail
  simp only [← hW2]
  clear hW2
  go_wp2_with fail
  refine (cW _ _ (base9_is HPR2.out) (HS.out.below HB2.out)).mono ?_
  rintro e w3 ⟨pa3, ca3, pk3, ck3, rfl, hn3, hrow3, b3⟩
  have z3 := b3.size
  obtain ⟨W3, hW3⟩ : ∃ W3, W3 = w3.alloc (.cells #[.int .i64 0, .string ⟨#[]⟩, .string nm, .slice pa3 al2.length ca3, .slice pk3 0 ck3, .string ⟨#[116]⟩, .int .i64 7] 25) := ⟨_, rfl⟩
  have A3 : Below w3.heap.size w3 W3 := by rw [hW3]; exact (Below.refl _ _).alloc (Nat.le_refl _) _
  have P9 : Blk W3 w3.heap.size #[.int .i64 0, .string ⟨#[]⟩, .string nm, .slice pa3 al2.length ca3, .slice pk3 0 ck3, .string ⟨#[116]⟩, .int .i64 7] 25 := by rw [hW3]; exact Blk.new w3 _ _
  have hzW3 : w3.heap.size + 1 = W3.heap.size := by rw [hW3]; simp
  have C3 := b3.trans (A3.mono z3)
  have HN9 := Lib.hid (hn3.below A3)
  have HRW := Lib.hid (row_below hrow3 A3)
  have H9 := Lib.hid P9
  have H83 := Lib.hid (H8.out.more C3)
  have HN83 := Lib.hid (HN8.out.below C3)
  have HPR3 := Lib.hid (HPR2.out.more C3)
  have HPB3 := Lib.hid (HPB2.out.more C3)
  have HB3 := Lib.hid (HB2.out.trans (C3.mono HB2.out.size))
  clear d0 d1 d2 d3 d4 d5 d6 H8 HN8 HPR2 HPB2 HB2 P9 A3 b3 hn3 hrow3 cW
  go_upto_region 6 with fail
  simp only [← hW3]
  clear hW3
  have HI := Lib.hid (show WBI w pk kids p l nE nM #[.int .i64 0, .string ⟨#[]⟩, .string nm, .slice (some ⟨w1.heap.size, 0, none⟩) 1 1, .slice none 0 0, .string ⟨#[116]⟩, .int .i64 7] #[.int .i64 nE.kind, .string nE.sp, .string nE.nm, .slice pa2 nE.al.length ca2, .slice pk2 nE.kids.length ck2, .string nE.tx, .int .i64 nE.at'] #[.int .i64 0, .string ⟨#[]⟩, .string nm, .slice pa3 al2.length ca3, .slice pk3 0 ck3, .string ⟨#[116]⟩, .int .i64 7] (w1.heap.size + 1) w2.heap.size w3.heap.size w1.heap.size W2.heap.size al2.length (.slice pa3 al2.length ca3) (attrsCells al2) W3 from
    ⟨KidsAt.below HB3.out _ _ _ HK.out, HS.out.below HB3.out, HN83.out, HN9.out, HPR3.out, HPB3.out, H83.out, H9.out, HRW.out, HasTabs_below HT.out HB3.out, HB3.out⟩)
  have hord : w1.heap.size + 1 < w2.heap.size ∧ w2.heap.size < w3.heap.size := by omega
  have hlo : w1.heap.size + 2 ≤ W2.heap.size ∧ w2.heap.size < W2.heap.size ∧ W2.heap.size ≤ w3.heap.size := by omega
  have hwz : w.heap.size ≤ w1.heap.size := by omega
  have HTB := HT
  clear HT HK HS HB3 HN83 HN9 HPR3 HPB3 H83 H9 HRW C3 hzB hz1 z2 hzW2 z3 hzW3 hR
  generalize W2.heap.size = lo at *
  generalize w2.heap.size = b8 at *
  generalize w3.heap.size = b9 at *
  generalize w1.heap.size = R at *
  obtain ⟨SC, hSC⟩ : ∃ SC : World → Prop, SC = fun w' => (w'.cell? ⟨b8, 0, none⟩ = some (.int .i64 nE.kind) ∧ w'.cell? ⟨b8, 1, none⟩ = some (.string nE.sp) ∧ w'.cell? ⟨b8, 2, none⟩ = some (.string nE.nm) ∧ w'.cell? ⟨b8, 3, none⟩ = some (.slice pa2 nE.al.length ca2) ∧ w'.cell? ⟨b8, 4, none⟩ = some (.slice pk2 nE.kids.length ck2) ∧ w'.cell? ⟨b8, 5, none⟩ = some (.string nE.tx) ∧ w'.cell? ⟨b8, 6, none⟩ = some (.int .i64 nE.at')) ∧
    (w'.cell? ⟨b9, 0, none⟩ = some (.int .i64 0) ∧ w'.cell? ⟨b9, 1, none⟩ = some (.string ⟨#[]⟩) ∧ w'.cell? ⟨b9, 2, none⟩ = some (.string nm) ∧ w'.cell? ⟨b9, 3, none⟩ = some (.slice pa3 al2.length ca3) ∧ w'.cell? ⟨b9, 4, none⟩ = some (.slice pk3 0 ck3) ∧ w'.cell? ⟨b9, 5, none⟩ = some (.string ⟨#[116]⟩) ∧ w'.cell? ⟨b9, 6, none⟩ = some (.int .i64 7)) ∧
    (w'.cell? ⟨R + 1, 0, none⟩ = some (.int .i64 0) ∧ w'.cell? ⟨R + 1, 1, none⟩ = some (.string ⟨#[]⟩) ∧ w'.cell? ⟨R + 1, 2, none⟩ = some (.string nm) ∧ w'.cell? ⟨R + 1, 3, none⟩ = some (.slice (some ⟨R, 0, none⟩) 1 1) ∧ w'.cell? ⟨R + 1, 4, none⟩ = some (.slice none 0 0) ∧ w'.cell? ⟨R + 1, 5, none⟩ = some (.string ⟨#[116]⟩) ∧ w'.cell? ⟨R + 1, 6, none⟩ = some (.int .i64 7)) := ⟨_, rfl⟩
  have hkS : ∀ u : World, WBI w pk kids p l nE nM #[.int .i64 0, .string ⟨#[]⟩, .string nm, .slice (some ⟨R, 0, none⟩) 1 1, .slice none 0 0, .string ⟨#[116]⟩, .int .i64 7] #[.int .i64 nE.kind, .string nE.sp, .string nE.nm, .slice pa2 nE.al.length ca2, .slice pk2 nE.kids.length ck2, .string nE.tx, .int .i64 nE.at'] #[.int .i64 0, .string ⟨#[]⟩, .string nm, .slice pa3 al2.length ca3, .slice pk3 0 ck3, .string ⟨#[116]⟩, .int .i64 7] (R + 1) b8 b9 R lo al2.length (.slice pa3 al2.length ca3) (attrsCells al2) u → SC u := fun u h => by
    rw [hSC]
    exact ⟨⟨h.x8.cell 0, h.x8.cell 1, h.x8.cell 2, h.x8.cell 3, h.x8.cell 4, h.x8.cell 5, h.x8.cell 6⟩, ⟨h.x9.cell 0, h.x9.cell 1, h.x9.cell 2, h.x9.cell 3, h.x9.cell 4, h.x9.cell 5, h.x9.cell 6⟩, ⟨h.x7.cell 0, h.x7.cell 1, h.x7.cell 2, h.x7.cell 3, h.x7.cell 4, h.x7.cell 5, h.x7.cell 6⟩⟩
  have HID := Lib.hid (HI.out.more (Below.refl _ _).drew)
  have hSD := hkS _ HID.out
  subst hSC
  clear HI
  go_region_held3 (fun w' => (w'.cell? ⟨b8, 0, none⟩ = some (.int .i64 nE.kind) ∧ w'.cell? ⟨b8, 1, none⟩ = some (.string nE.sp) ∧ w'.cell? ⟨b8, 2, none⟩ = some (.string nE.nm) ∧ w'.cell? ⟨b8, 3, none⟩ = some (.slice pa2 nE.al.length ca2) ∧ w'.cell? ⟨b8, 4, none⟩ = some (.slice pk2 nE.kids.length ck2) ∧ w'.cell? ⟨b8, 5, none⟩ = some (.string nE.tx) ∧ w'.cell? ⟨b8, 6, none⟩ = some (.int .i64 nE.at')) ∧
    (w'.cell? ⟨b9, 0, none⟩ = some (.int .i64 0) ∧ w'.cell? ⟨b9, 1, none⟩ = some (.string ⟨#[]⟩) ∧ w'.cell? ⟨b9, 2, none⟩ = some (.string nm) ∧ w'.cell? ⟨b9, 3, none⟩ = some (.slice pa3 al2.length ca3) ∧ w'.cell? ⟨b9, 4, none⟩ = some (.slice pk3 0 ck3) ∧ w'.cell? ⟨b9, 5, none⟩ = some (.string ⟨#[116]⟩) ∧ w'.cell? ⟨b9, 6, none⟩ = some (.int .i64 7)) ∧
    (w'.cell? ⟨R + 1, 0, none⟩ = some (.int .i64 0) ∧ w'.cell? ⟨R + 1, 1, none⟩ = some (.string ⟨#[]⟩) ∧ w'.cell? ⟨R + 1, 2, none⟩ = some (.string nm) ∧ w'.cell? ⟨R + 1, 3, none⟩ = some (.slice (some ⟨R, 0, none⟩) 1 1) ∧ w'.cell? ⟨R + 1, 4, none⟩ = some (.slice none 0 0) ∧ w'.cell? ⟨R + 1, 5, none⟩ = some (.string ⟨#[116]⟩) ∧ w'.cell? ⟨R + 1, 6, none⟩ = some (.int .i64 7))) (first | exact hSD | exact hS4 | exact hS5 | exact hS6 | exact hS7)
    (first
      | (go_at_call 14; refine (cQ2 _ _ _ HI6.out.n9 hnW).mono ?_; rintro e w7 ⟨rfl, b7⟩; have HI7 := Lib.hid (HI6.out.more b7); have hS7 := hkS _ HI7.out)
      | (go_at_call 16; refine (cV _ _ (base9_is HI5.out.rw) HI5.out.str).mono ?_; rintro e w6 ⟨vW, rfl, hnW, b6⟩; obtain ⟨paW, caW, pkW, ckW, rfl⟩ := node_form hnW; have HI6 := Lib.hid (HI5.out.more b6); have hS6 := hkS _ HI6.out)
      | (go_at_call 14; refine (cQ1 _ _ _ HI4.out.n8 hnE).mono ?_; rintro e w5 ⟨rfl, b5⟩; have HI5 := Lib.hid (HI4.out.more b5); have hS5 := hkS _ HI5.out)
      | (go_at_call 15; refine (cF _ HID.out.kds).mono ?_; rintro e w4 ⟨vE, rfl, hnE, b4⟩; obtain ⟨paE, caE, pkE, ckE, rfl⟩ := node_form hnE; have HI4 := Lib.hid (HID.out.more b4); have hS4 := hkS _ HI4.out))
  have hI7 := HI7.out
  obtain ⟨g, hg⟩ : ∃ g, (Value.slice pa3 al2.length ca3).ownBlock = some g := by
    obtain ⟨g, cap, hv, _⟩ := hI7.row.form (by omega)
    exact ⟨g, by rw [hv]; rfl⟩
  obtain ⟨hglo, hgz, csg, fzg, hhg⟩ := row_kind hI7.row g hg
  obtain rfl : pa3 = some ⟨g, 0, none⟩ := by
    obtain ⟨g', cap, hv, _⟩ := hI7.row.form (by omega)
    rw [hv] at hg
    cases hg
    exact (Value.slice.inj hv).1
  have hg9 : g ≠ b9 := fun e => by
    have h2 := congrArg (fun o : Option Obj => match o with | some (.cells _ t _) => t | _ => 0) (Eq.trans (Eq.symm hI7.x9) (e ▸ hhg))
    exact absurd (show (25 : Nat) = 37 from h2) (by decide)
  have e3 : w7.cell? ⟨b9, 3, none⟩ = some (.slice (some ⟨g, 0, none⟩) al2.length ca3) := hI7.x9.cell 3
  have hxs : ∀ j, j < al2.length → ∃ y, (attrsCells al2)[j * 4 + 2]? = some (.string y) := fun j hj => attrs_va9 al2 j hj
  have hrow := Lib.hid hI7.row
  have hwlo : w.heap.size ≤ R := hwz
  clear hI7 hhg cQ1 cQ2 cV cF HI4 HI5 HI6 HID hS4 hS5 hS6 hS7 hSD b4 b5 b6 b7 hnE hnW hkS hg
  go_wp2
  go_loopw [59] (fun q wr => ∃ (k : Nat) (xs : List Value), k ≤ al2.length ∧ q = .int .i64 (k : Int) ∧ wr.ownsRow lo 37 4 (.slice (some ⟨g, 0, none⟩) al2.length ca3) al2.length xs ∧ (∀ j, j < al2.length → ∃ y, xs[j * 4 + 2]? = some (.string y)) ∧ Part (fun b => b = g) w7 wr) (fun q _ => al2.length - (RowKit.intOf q).toNat)
  case atStart => exact ⟨0, attrsCells al2, Nat.zero_le _, rfl, hrow.out, hxs, Part.refl _ _⟩
  case round =>
    obtain ⟨k, xs, hk, rfl, hrw, hcs, hpt⟩ := hrel
    clear hxs hrow
    have e3r : wr.cell? ⟨b9, 3, none⟩ = some (.slice (some ⟨g, 0, none⟩) al2.length ca3) := hpt.cell e3 (fun e => hg9 e.symm)
    by_cases hlt : k < al2.length
    · obtain ⟨y, hy⟩ := hcs k hlt
      have hkz : (k : Int) < (al2.length : Int) := by omega
      have hcell : wr.cell? ⟨g, k * 4 + 2, none⟩ = some (.string y) := (hrw.cellAt (k * 4 + 2) (by omega)).trans hy
      have hfr : wr.frozen? ⟨g, k * 4 + 2, none⟩ = false := hrw.frozenAt (k * 4 + 2)
      have HRW := Lib.hid (hrw.stored (k * 4 + 2) (.string ⟨#[63]⟩))
      have HCS := Lib.hid hcs
      have HPT := Lib.hid hpt
      have HY := Lib.hid hy
      clear hrw hcs hpt hy
      go_wp2
      have hyl : k * 4 + 2 < xs.length := (List.getElem?_eq_some_iff.1 HY.out).1
      refine ⟨⟨k + 1, xs.set (k * 4 + 2) (.string ⟨#[63]⟩), by omega, by go_num, HRW.out.1, fun j hj => ?_, HPT.out.set (.inl rfl) _⟩, by simp [RowKit.intOf]; omega⟩
      by_cases hjk : j = k
      · subst hjk
        exact ⟨_, List.getElem?_set_self hyl⟩
      · rw [List.getElem?_set_ne (by omega)]
        exact HCS.out j hj
    · obtain rfl : k = al2.length := by omega
      have hb7 := hpt.below HI7.out.below (fun b hb => by omega) (by have := HI7.out.below.size; omega)
      have HBW := Lib.hid hb7
      have tW := HasTabs_below HTB.out hb7
      have HPRw := Lib.hid (hpt.blk HI7.out.rw (by omega))
      have HPBw := Lib.hid (hpt.blk HI7.out.x7 (by omega))
      clear hlt hcs hrw hpt HI7 hb7 e3 e3r
      go_wp2_with fail
      refine (cT _).mono ?_
      rintro e w8 ⟨v8, rfl, hn8, b8'⟩
      obtain ⟨pa8, ca8, pk8, ck8, rfl⟩ := node_form hn8
      have z8 := b8'.size
      have A8 : ∀ o : Obj, Below w8.heap.size w8 (w8.alloc o) := fun o => (Below.refl _ _).alloc (Nat.le_refl _) _
      have C8 : ∀ o : Obj, Below wr.heap.size wr (w8.alloc o) := fun o => b8'.trans ((A8 o).mono z8)
      have t8 : ∀ o : Obj, HasTabs (w8.alloc o) := fun o => HasTabs_below tW (C8 o)
      have HX8 := Lib.hid (Blk.new w8 #[.int .i64 nX.kind, .string nX.sp, .string nX.nm, .slice pa8 nX.al.length ca8, .slice pk8 nX.kids.length ck8, .string nX.tx, .int .i64 nX.at'] 25)
      have HN8' := Lib.hid (fun o : Obj => hn8.below (A8 o))
      have HC8 := Lib.hid C8
      clear C8 A8 hn8 b8' tW cT
      go_wp2_with fail
      refine (cA _ (t8 _)).mono ?_
      rintro e w9 ⟨rfl, b9'⟩
      have P9 := HX8.out.more b9'
      have f0 : w9.cell? ⟨w8.heap.size, 0, none⟩ = some (.int .i64 nX.kind) := P9.cell 0
      have f1 : w9.cell? ⟨w8.heap.size, 1, none⟩ = some (.string nX.sp) := P9.cell 1
      have f2 : w9.cell? ⟨w8.heap.size, 2, none⟩ = some (.string nX.nm) := P9.cell 2
      have f3 : w9.cell? ⟨w8.heap.size, 3, none⟩ = some (.slice pa8 nX.al.length ca8) := P9.cell 3
      have f4 : w9.cell? ⟨w8.heap.size, 4, none⟩ = some (.slice pk8 nX.kids.length ck8) := P9.cell 4
      have f5 : w9.cell? ⟨w8.heap.size, 5, none⟩ = some (.string nX.tx) := P9.cell 5
      have f6 : w9.cell? ⟨w8.heap.size, 6, none⟩ = some (.int .i64 nX.at') := P9.cell 6
      have C9 := (HC8.out _).trans (b9'.mono (HC8.out _).size)
      have R9 := HPRw.out.more C9
      have B9 := HPBw.out.more C9
      have g3 : w9.cell? ⟨R + 1, 3, none⟩ = some (.slice (some ⟨R, 0, none⟩) 1 1) := B9.cell 3
      have g4 : w9.cell? ⟨R, 2, none⟩ = some (.string ⟨#[]⟩) := R9.cell 2
      have cE3 := cQ3 w9 _ _ ((HN8'.out _).below b9') (cXl w9)
      have HB9 := Lib.hid (HBW.out.trans (C9.mono HBW.out.size))
      clear P9 C9 R9 B9 HC8 HN8' HX8 HPRw HPBw HBW cQ3 cXl cA b9' t8
      go_wp2_with fail
      refine cE3.mono ?_
      rintro e w10 ⟨rfl, b10⟩
      go_wp2
      go_ret
      exact ⟨by simp, HB9.out.trans (b10.mono HB9.out.size)⟩
end Go.Proofs.YtppmoeidgefkpaaDoor
end
