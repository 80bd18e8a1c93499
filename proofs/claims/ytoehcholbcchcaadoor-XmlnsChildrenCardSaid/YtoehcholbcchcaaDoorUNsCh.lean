/- Packed from the texts NsCh. -/
import Derived.Test.YtoehcholbcchcaaDoorUNsG
import Derived.Test.YtoehcholbcchcaaDoorUkD
import Derived.Test.YtoehcholbcchcaaDoorUkF
import Derived.Test.YtoehcholbcchcaaDoorUkJ
import Derived.Deep.AppendLies
section
namespace Go.Proofs.YtoehcholbcchcaaDoor
open Go.RowKit
def isCh (s m : ByteArray) (k : NodeD) : Bool := decide (k.kind = 0 ∧ k.sp = s ∧ k.nm = m)
def chP (s m : ByteArray) (l : List NodeD) : List NodeD := l.filter (isCh s m)
theorem chP_yes {s m : ByteArray} {k : NodeD} (r : List NodeD) (h : isCh s m k = true) : chP s m (k :: r) = k :: chP s m r := by unfold chP; rw [List.filter_cons_of_pos h]
theorem chP_no {s m : ByteArray} {k : NodeD} (r : List NodeD) (h : ¬ isCh s m k = true) : chP s m (k :: r) = chP s m r := by unfold chP; rw [List.filter_cons_of_neg h]
def atP (s m : ByteArray) : List AttrD → Option ByteArray
  | [] => none
  | x :: r => if x.sp = s ∧ x.nm = m then some x.va else atP s m r
structure CL (w0 : World) (done : List NodeD) (vk : Value) (xs : List Value) (w : World) : Prop where
  row : w.ownsRow w0.heap.size 29 7 vk done.length xs
  kids : KRow (holes w vk.ownBlock.toList) done xs
  below : Below w0.heap.size w0 w
theorem CL.nil (w0 : World) {w : World} (hb : Below w0.heap.size w0 w) : CL w0 [] (.slice none 0 0) [] w := ⟨World.ownsRow_nil _ _ _ _, rfl, hb⟩
theorem CL.more {w0 w w' : World} {done : List NodeD} {vk : Value} {xs : List Value} (h : CL w0 done vk xs w) (hb : Below w.heap.size w w') : CL w0 done vk xs w' :=
  ⟨row_below h.row hb, KRow.go (Goes.below hb) _ _ h.kids, h.below.trans (hb.mono h.below.size)⟩
theorem CL.push {w0 w w4 : World} {done : List NodeD} {vk v5 : Value} {xs : List Value} (h : CL w0 done vk xs w) {k : NodeD} {c0 c1 c2 c3 c4 c5 c6 : Value} (hg : w.grownBy w4 vk.ownBlock)
    (hk : NodeIs (holes w vk.ownBlock.toList) k (.agg #[c0, c1, c2, c3, c4, c5, c6])) (hr : w4.ownsRow w0.heap.size 29 7 v5 (done.length + 1) (xs ++ [c0, c1, c2, c3, c4, c5, c6])) (hnew : ∀ g, v5.ownBlock = some g → vk.ownBlock = some g ∨ w.heap.size ≤ g) :
    CL w0 (done ++ [k]) v5 (xs ++ [c0, c1, c2, c3, c4, c5, c6]) w4 := by
  have hgo : Goes w vk.ownBlock.toList w4 v5.ownBlock.toList := fun b hb1 hb2 => by
    refine ⟨fun e => ?_, hg.block b hb1 (fun e => hb2 (by rw [← e]; simp))⟩
    have hv : v5.ownBlock = some b := by simpa using e
    rcases hnew b hv with h3 | h3
    · exact hb2 (by rw [h3]; simp)
    · omega
  exact ⟨by rw [List.length_append, List.length_singleton]; exact hr, KRow.snoc (hk.go hgo) _ _ (KRow.go hgo _ _ h.kids), h.below.grown hg h.below.size (fun k hk => (row_kind h.row k hk).1)⟩
theorem CL.list {w0 w : World} {done : List NodeD} {pv : Option Addr} {cv : Nat} {xs : List Value} (h : CL w0 done (.slice pv done.length cv) xs w) : KidsAt w pv 0 done := by
  obtain ⟨p, c, hv, hk⟩ := row_kids (L' := []) h.row h.kids (fun b hb => by cases hb) (fun g _ e => by cases e)
  rw [holes_nil] at hk
  injection hv with h1
  rw [h1]
  exact hk
def ChR (l : List NodeD) (w : World) (e : Ending) (w' : World) : Prop := ∃ p c, e = .returned (.slice p l.length c) ∧ KidsAt w' p 0 l ∧ Below w.heap.size w w'
theorem nodes_news (w : World) (t : TypeId) (c0 c1 c2 c3 c4 c5 c6 : Value) : ∀ j u, ([c0, c1, c2, c3, c4, c5, c6] : List Value)[j]? = some u → (w.alloc (.cells #[c0, c1, c2, c3, c4, c5, c6] t)).cell? ((⟨w.heap.size, 0, none⟩ : Addr).add j) = some u := by
  intro j u hu
  rw [addr_add, World.cell?_alloc_at _ _ _ _ rfl, List.getElem?_toArray]
  exact hu
theorem nodes_one (k : NodeD) (a : Option Addr) (b : Nat) (c : Option Addr) (d : Nat) : ∀ u ∈ ([.int .i64 k.kind, .string k.sp, .string k.nm, .slice a k.al.length b, .slice c k.kids.length d, .string k.tx, .int .i64 k.at'] : List Value), u.oneCell' = true := by
  intro u hu
  simp only [List.mem_cons, List.not_mem_nil, or_false] at hu
  rcases hu with rfl | rfl | rfl | rfl | rfl | rfl | rfl <;> rfl
set_option maxRecDepth 100000 in
set_option maxHeartbeats 16000000 in
theorem nref_Children (n : NodeD) (v : Value) (s m : ByteArray) (w : World) (hn : NodeIs w n v) (hl : n.kids.length ≤ 1000000) : Calls Tryd.prog 19 #[v, .string s, .string m] w fun e w' => ChR (chP s m n.kids) w e w' := by
  obtain ⟨i0, hi0, hi1, hi3, hi4⟩ := info_parts kinfo_node
  obtain ⟨pa, ca, pk, ck, rfl, hA, hK⟩ := (node_is w n v).1 hn
  have b0 : Below w.heap.size w (w.alloc (.cells #[.int .i64 n.kind, .string n.sp, .string n.nm, .slice pa n.al.length ca, .slice pk n.kids.length ck, .string n.tx, .int .i64 n.at'] 29)) := (Below.refl _ _).alloc (Nat.le_refl _) _
  have HN := Lib.hid (Blk.new w #[.int .i64 n.kind, .string n.sp, .string n.nm, .slice pa n.al.length ca, .slice pk n.kids.length ck, .string n.tx, .int .i64 n.at'] 29)
  have H0 := Lib.hid (CL.nil _ (Below.refl (w.alloc (.cells #[.int .i64 n.kind, .string n.sp, .string n.nm, .slice pa n.al.length ca, .slice pk n.kids.length ck, .string n.tx, .int .i64 n.at'] 29)).heap.size _))
  obtain ⟨W, hW⟩ : ∃ W, W = w.alloc (.cells #[.int .i64 n.kind, .string n.sp, .string n.nm, .slice pa n.al.length ca, .slice pk n.kids.length ck, .string n.tx, .int .i64 n.at'] 29) := ⟨_, rfl⟩
  rw [← hW] at b0 HN H0
  have hzW : w.heap.size < W.heap.size := by rw [hW]; simp
  have HB0 := Lib.hid b0
  have HK := Lib.hid (hK.below b0)
  clear hn hA hK b0
  go_enter Tryd.func19, Tryd.ntmps19
  go_upto_region 2 with fail
  simp only [← hW]
  clear hW
  go_wp2
  go_loopw [7, 8] (fun v q wr => ∃ (i : Nat) (done : List NodeD) (pv : Option Addr) (cv : Nat) (xs : List Value), i ≤ n.kids.length ∧ q = .int .i64 i ∧ v = .slice pv done.length cv ∧ done.length ≤ i ∧ chP s m n.kids = done ++ chP s m (n.kids.drop i) ∧ CL W done (.slice pv done.length cv) xs wr) (fun _ q _ => n.kids.length - (intOf q).toNat)
  case atStart => exact ⟨0, [], none, 0, [], Nat.zero_le _, rfl, rfl, Nat.le_refl _, rfl, H0.out⟩
  case round =>
    obtain ⟨i, done, pv, cv, xs, hi, rfl, rfl, hdl, hch, hC⟩ := hrel
    have hz := hC.below.size
    have f4 := (HN.out.more hC.below).cell 4
    simp only [List.getElem?_toArray, List.getElem?_cons_succ, List.getElem?_cons_zero] at f4
    by_cases hlt : i < n.kids.length
    · have hiz : (i : Int) < (n.kids.length : Int) := by omega
      rw [List.drop_eq_getElem_cons hlt] at hch
      have hgo : Goes W [] wr (Value.slice pv done.length cv).ownBlock.toList := fun b hb1 _ => ⟨fun e => by have := (own_lt hC.row b e).1; omega, hC.below.block b hb1⟩
      have hK0 : KidsAt (holes W []) pk 0 n.kids := by rw [holes_nil]; exact HK.out
      obtain ⟨ad, v0, v1, v2, v3, v4, v5, v6, rfl, ⟨q0, q1, q2, q3, q4, q5, q6⟩, hkn⟩ := KidsAt.get n.kids 0 (KidsAt.mono (fun a u => hgo.cell a u) _ _ _ hK0) i hlt
      replace q0 := (holes_cell q0).1
      replace q1 := (holes_cell q1).1
      replace q2 := (holes_cell q2).1
      replace q3 := (holes_cell q3).1
      replace q4 := (holes_cell q4).1
      replace q5 := (holes_cell q5).1
      replace q6 := (holes_cell q6).1
      rw [Nat.zero_add] at q0 q1 q2 q3 q4 q5 q6
      obtain ⟨k, hk⟩ : ∃ k, n.kids[i] = k := ⟨_, rfl⟩
      rw [hk] at hkn hch
      obtain ⟨ka, da, kk, dk, hv⟩ := node_form hkn
      simp only [Value.agg.injEq, Array.mk.injEq, List.cons.injEq, and_true] at hv
      obtain ⟨rfl, rfl, rfl, rfl, rfl, rfl, rfl⟩ := hv
      obtain ⟨cc, hcc⟩ : ∃ c, ad.add (i * 7) = c := ⟨_, rfl⟩
      rw [hcc] at q0 q1 q2 q3 q4 q5 q6
      simp only [Addr.add, Nat.reduceEqDiff, ↓reduceIte] at q1 q2 q3 q4 q5 q6
      have HC := Lib.hid hC
      have row4 := hC.row
      have HK2 := Lib.hid hkn
      clear hC hkn hgo hK0 hk
      by_cases hy : isCh s m k = true
      · rw [chP_yes _ hy] at hch
        obtain ⟨y0, y1, y2⟩ : k.kind = 0 ∧ k.sp = s ∧ k.nm = m := of_decide_eq_true hy
        have t0 : (k.kind == 0) = true := by rw [y0]; rfl
        have t1 : (k.sp.toList == s.toList) = true := by rw [y1]; simp
        have t2 : (k.nm.toList == m.toList) = true := by rw [y2]; simp
        have hch2 : chP s m n.kids = (done ++ [k]) ++ chP s m (n.kids.drop (i + 1)) := by rw [hch, List.append_assoc]; rfl
        have HCH := Lib.hid hch2
        clear hch hch2 hy y0 y1 y2
        go_wp2_with (at_builtin; refine wpList_append_lies _ rfl _ _ 27 rfl W.heap.size 29 i0 (.agg #[.int .i64 0, .string ⟨#[]⟩, .string ⟨#[]⟩, .slice none 0 0, .slice none 0 0, .string ⟨#[]⟩, .int .i64 0]) 7 112 Tryd.underlying27 hi0 hi1 hi3 hi4 rfl (by decide) (.slice pv done.length cv) done.length xs rfl (row4.alloc _) ⟨wr.heap.size, 0, none⟩ 1 1 [.int .i64 k.kind, .string k.sp, .string k.nm, .slice ka k.al.length da, .slice kk k.kids.length dk, .string k.tx, .int .i64 k.at'] rfl rfl (nodes_news wr _ _ _ _ _ _ _ _) (nodes_one k ka da kk dk) (by decide) (by unfold maxLen; omega) (by omega) (by simp; omega) (wr.heap.size + 1) (by simp) ?_)
        intro g cap w5 hown5 hgr5 hat5 hlt5
        have bN : Below wr.heap.size wr (wr.alloc (.cells #[.int .i64 k.kind, .string k.sp, .string k.nm, .slice ka k.al.length da, .slice kk k.kids.length dk, .string k.tx, .int .i64 k.at'] 29)) := (Below.refl _ _).alloc (Nat.le_refl _) _
        have R5 := (HC.out.more bN).push hgr5 (HK2.out.go (Goes.below bN)) hown5 (fun g' hg' => by
          rcases hat5 with h | h
          · left; rw [h]; simpa [Value.ownBlock] using hg'
          · right; simp [Value.ownBlock] at hg'; simp; omega)
        have HR5 := Lib.hid R5
        clear R5 hown5 hgr5 hat5 hlt5 bN row4
        go_wp2
        go_roundw
        case rel => exact ⟨i + 1, done ++ [k], some ⟨g, 0, none⟩, cap, _, by omega, by go_num, by rw [List.length_append]; rfl, by rw [List.length_append, List.length_singleton]; omega, HCH.out, by rw [List.length_append, List.length_singleton]; exact HR5.out⟩
        case measure => simp [intOf]; omega
      · rw [chP_no _ hy] at hch
        have HCH := Lib.hid hch
        by_cases y0 : k.kind = 0
        · have t0 : (k.kind == 0) = true := by rw [y0]; rfl
          by_cases y1 : k.sp = s
          · have t1 : (k.sp.toList == s.toList) = true := by rw [y1]; simp
            have y2 : ¬ k.nm = m := fun e => hy (decide_eq_true ⟨y0, y1, e⟩)
            have t2 := str_ne2 y2
            have t3 := str_ne3 y2
            clear hch hy y0 y1 y2
            go_wp2
            go_roundw
            case rel => exact ⟨i + 1, done, pv, cv, xs, by omega, by go_num, rfl, by omega, HCH.out, HC.out⟩
            case measure => simp [intOf]; omega
          · have t1 := str_ne2 y1
            have t3 := str_ne3 y1
            clear hch hy y0 y1
            go_wp2
            go_roundw
            case rel => exact ⟨i + 1, done, pv, cv, xs, by omega, by go_num, rfl, by omega, HCH.out, HC.out⟩
            case measure => simp [intOf]; omega
        · have t0 : (k.kind == 0) = false := by simpa using y0
          clear hch hy y0
          go_wp2
          go_roundw
          case rel => exact ⟨i + 1, done, pv, cv, xs, by omega, by go_num, rfl, by omega, HCH.out, HC.out⟩
          case measure => simp [intOf]; omega
    · obtain rfl : i = n.kids.length := by omega
      have hiz : ¬ (n.kids.length : Int) < (n.kids.length : Int) := by omega
      rw [List.drop_length] at hch
      have hd : chP s m n.kids = done := by rw [hch]; simp [chP]
      have HD := Lib.hid hd
      have HC := Lib.hid hC
      clear hC hch hd
      go_wp2
      refine bodyPost_ret (v := .slice pv done.length cv) (by simp [results, Tryd.results19, go_sem]) rfl ?_
      rw [HD.out]
      exact ⟨pv, cv, rfl, HC.out.list, HB0.out.trans (HC.out.below.mono HB0.out.size)⟩
set_option maxRecDepth 100000 in
set_option maxHeartbeats 16000000 in
theorem ns_Children (n : NodeD) (v : Value) (s m : ByteArray) (w : World) (hn : NodeIs w n v) (hcn : n.cnt ≤ 1000000) (hac : n.acnt ≤ 10000000) : Calls Tryd.prog 18 #[v, .string s, .string m] w fun e w' => ChR (chP s m n.kids) w e w' := by
  obtain ⟨i0, hi0, hi1, hi3, hi4⟩ := info_parts kinfo_node
  obtain ⟨pa, ca, pk, ck, rfl, hA, hK⟩ := (node_is w n v).1 hn
  have hl : n.kids.length ≤ 1000000 := by have := cnts_length n.kids; have := cnt_eq n; omega
  have HCP := Lib.hid (show ∀ k ∈ n.kids, CopyAt k from fun k hk => ns_copyOf k.cnt k (Nat.le_refl _) (by have := cnt_kid n k hk; omega) (by have := acnts_mem _ k hk; have := acnt_eq n; omega))
  have b0 : Below w.heap.size w (w.alloc (.cells #[.int .i64 n.kind, .string n.sp, .string n.nm, .slice pa n.al.length ca, .slice pk n.kids.length ck, .string n.tx, .int .i64 n.at'] 29)) := (Below.refl _ _).alloc (Nat.le_refl _) _
  have HN := Blk.new w #[.int .i64 n.kind, .string n.sp, .string n.nm, .slice pa n.al.length ca, .slice pk n.kids.length ck, .string n.tx, .int .i64 n.at'] 29
  have H0 := Lib.hid (CL.nil _ (Below.refl (w.alloc (.cells #[.int .i64 n.kind, .string n.sp, .string n.nm, .slice pa n.al.length ca, .slice pk n.kids.length ck, .string n.tx, .int .i64 n.at'] 29)).heap.size _))
  obtain ⟨W, hW⟩ : ∃ W, W = w.alloc (.cells #[.int .i64 n.kind, .string n.sp, .string n.nm, .slice pa n.al.length ca, .slice pk n.kids.length ck, .string n.tx, .int .i64 n.at'] 29) := ⟨_, rfl⟩
  rw [← hW] at b0 HN H0
  have f4 := HN.cell 4
  simp only [List.getElem?_toArray, List.getElem?_cons_succ, List.getElem?_cons_zero] at f4
  have hzW : w.heap.size < W.heap.size := by rw [hW]; simp
  have HB0 := Lib.hid b0
  have HK := Lib.hid (hK.below b0)
  clear hn hA hK b0 HN
  go_enter Tryd.func18, Tryd.ntmps18
  go_upto_region 2 with fail
  simp only [← hW]
  clear hW
  go_wp2
  go_loopw [7, 13] (fun v q wr => ∃ (i : Nat) (done : List NodeD) (pv : Option Addr) (cv : Nat) (xs : List Value), i ≤ n.kids.length ∧ q = .int .i64 i ∧ v = .slice pv done.length cv ∧ done.length ≤ i ∧ chP s m n.kids = done ++ chP s m (n.kids.drop i) ∧ CL W done (.slice pv done.length cv) xs wr) (fun _ q _ => n.kids.length - (intOf q).toNat)
  case atStart => exact ⟨0, [], none, 0, [], Nat.zero_le _, rfl, rfl, Nat.le_refl _, rfl, H0.out⟩
  case round =>
    clear f4
    obtain ⟨i, done, pv, cv, xs, hi, rfl, rfl, hdl, hch, hC⟩ := hrel
    have hz := hC.below.size
    by_cases hlt : i < n.kids.length
    · have hiz : (i : Int) < (n.kids.length : Int) := by omega
      rw [List.drop_eq_getElem_cons hlt] at hch
      have hgo : Goes W [] wr (Value.slice pv done.length cv).ownBlock.toList := fun b hb1 _ => ⟨fun e => by have := (own_lt hC.row b e).1; omega, hC.below.block b hb1⟩
      have hK0 : KidsAt (holes W []) pk 0 n.kids := by rw [holes_nil]; exact HK.out
      obtain ⟨ad, v0, v1, v2, v3, v4, v5, v6, rfl, ⟨q0, q1, q2, q3, q4, q5, q6⟩, hkn⟩ := KidsAt.get n.kids 0 (KidsAt.mono (fun a u => hgo.cell a u) _ _ _ hK0) i hlt
      replace q0 := (holes_cell q0).1
      replace q1 := (holes_cell q1).1
      replace q2 := (holes_cell q2).1
      replace q3 := (holes_cell q3).1
      replace q4 := (holes_cell q4).1
      replace q5 := (holes_cell q5).1
      replace q6 := (holes_cell q6).1
      rw [Nat.zero_add] at q0 q1 q2 q3 q4 q5 q6
      have hcp := HCP.out n.kids[i] (List.getElem_mem _)
      obtain ⟨k, hk⟩ : ∃ k, n.kids[i] = k := ⟨_, rfl⟩
      rw [hk] at hkn hch hcp
      obtain ⟨ka, da, kk, dk, hv⟩ := node_form hkn
      simp only [Value.agg.injEq, Array.mk.injEq, List.cons.injEq, and_true] at hv
      obtain ⟨rfl, rfl, rfl, rfl, rfl, rfl, rfl⟩ := hv
      obtain ⟨cc, hcc⟩ : ∃ c, ad.add (i * 7) = c := ⟨_, rfl⟩
      rw [hcc] at q0 q1 q2 q3 q4 q5 q6
      simp only [Addr.add, Nat.reduceEqDiff, ↓reduceIte] at q1 q2 q3 q4 q5 q6
      obtain ⟨w2, hw2⟩ : ∃ w2, w2 = wr.alloc (.cells #[.int .i64 k.kind, .string k.sp, .string k.nm, .slice ka k.al.length da, .slice kk k.kids.length dk, .string k.tx, .int .i64 k.at'] 29) := ⟨_, rfl⟩
      have b2 : Below wr.heap.size wr w2 := by rw [hw2]; exact (Below.refl _ _).alloc (Nat.le_refl _) _
      have kP : Blk w2 wr.heap.size #[.int .i64 k.kind, .string k.sp, .string k.nm, .slice ka k.al.length da, .slice kk k.kids.length dk, .string k.tx, .int .i64 k.at'] 29 := by rw [hw2]; exact Blk.new wr _ _
      have hz2 := b2.size
      have cC := hcp _ w2 (NodeIs.below b2 _ _ (NodeIs.full hkn))
      have y0 := kP.cell 0
      have y1 := kP.cell 1
      have y2 := kP.cell 2
      have y3 := kP.cell 3
      have y4 := kP.cell 4
      have y5 := kP.cell 5
      have y6 := kP.cell 6
      simp only [List.getElem?_toArray, List.getElem?_cons_succ, List.getElem?_cons_zero] at y0 y1 y2 y3 y4 y5 y6
      have HC := Lib.hid (hC.more b2)
      clear hC hkn hgo hK0 hk hcp kP b2
      by_cases hy : isCh s m k = true
      · rw [chP_yes _ hy] at hch
        obtain ⟨x0, x1, x2⟩ : k.kind = 0 ∧ k.sp = s ∧ k.nm = m := of_decide_eq_true hy
        have t0 : (k.kind == 0) = true := by rw [x0]; rfl
        have t1 : (k.sp.toList == s.toList) = true := by rw [x1]; simp
        have t2 : (k.nm.toList == m.toList) = true := by rw [x2]; simp
        have hch2 : chP s m n.kids = (done ++ [k]) ++ chP s m (n.kids.drop (i + 1)) := by rw [hch, List.append_assoc]; rfl
        have HCH := Lib.hid hch2
        clear hch hch2 hy x0 x1 x2
        go_upto_region 5 with fail
        simp only [← hw2]
        clear hw2 q0 q1 q2 q3 q4 q5 q6
        go_wp2_with fail
        refine cC.mono ?_
        rintro e w3 ⟨v', rfl, hin, b3⟩
        obtain ⟨ea, fa, ek, fk, rfl⟩ := in_val hin
        have C3 := HC.out.more b3
        have hz3 := b3.size
        have hnk : NodeIs (holes w3 (Value.slice pv done.length cv).ownBlock.toList) k (.agg #[.int .i64 k.kind, .string k.sp, .string k.nm, .slice ea k.al.length fa, .slice ek k.kids.length fk, .string k.tx, .int .i64 k.at']) :=
          FreshIs.is _ _ (InIs.fresh (B := w2.heap.size) (Nat.le_refl _) _ _ (InIs.off (z := w3.heap.size) (fun b hb => by have h1 := (own_lt HC.out.row b hb).2; exact ⟨by omega, by omega⟩) hin))
        have HNK := Lib.hid hnk
        have row4 := C3.row
        have HC3 := Lib.hid C3
        have hz4 := C3.below.size
        clear hnk hin b3 C3 cC HC y0 y1 y2 y3 y4 y5 y6
        go_wp2_with (at_builtin; refine wpList_append_lies _ rfl _ _ 27 rfl W.heap.size 29 i0 (.agg #[.int .i64 0, .string ⟨#[]⟩, .string ⟨#[]⟩, .slice none 0 0, .slice none 0 0, .string ⟨#[]⟩, .int .i64 0]) 7 112 Tryd.underlying27 hi0 hi1 hi3 hi4 rfl (by decide) (.slice pv done.length cv) done.length xs rfl (row4.alloc _) ⟨w3.heap.size, 0, none⟩ 1 1 [.int .i64 k.kind, .string k.sp, .string k.nm, .slice ea k.al.length fa, .slice ek k.kids.length fk, .string k.tx, .int .i64 k.at'] rfl rfl (nodes_news w3 _ _ _ _ _ _ _ _) (nodes_one k ea fa ek fk) (by decide) (by unfold maxLen; omega) (by omega) (by simp; omega) (w3.heap.size + 1) (by simp) ?_)
        intro g cap w5 hown5 hgr5 hat5 hlt5
        have bN : Below w3.heap.size w3 (w3.alloc (.cells #[.int .i64 k.kind, .string k.sp, .string k.nm, .slice ea k.al.length fa, .slice ek k.kids.length fk, .string k.tx, .int .i64 k.at'] 29)) := (Below.refl _ _).alloc (Nat.le_refl _) _
        have R5 := (HC3.out.more bN).push hgr5 (HNK.out.go (Goes.below bN)) hown5 (fun g' hg' => by
          rcases hat5 with h | h
          · left; rw [h]; simpa [Value.ownBlock] using hg'
          · right; simp [Value.ownBlock] at hg'; simp; omega)
        have HR5 := Lib.hid R5
        clear R5 hown5 hgr5 hat5 hlt5 bN row4
        go_wp2
        go_roundw
        case rel => exact ⟨i + 1, done ++ [k], some ⟨g, 0, none⟩, cap, _, by omega, by go_num, by rw [List.length_append]; rfl, by rw [List.length_append, List.length_singleton]; omega, HCH.out, by rw [List.length_append, List.length_singleton]; exact HR5.out⟩
        case measure => simp [intOf]; omega
      · rw [chP_no _ hy] at hch
        have HCH := Lib.hid hch
        by_cases x0 : k.kind = 0
        · have t0 : (k.kind == 0) = true := by rw [x0]; rfl
          by_cases x1 : k.sp = s
          · have t1 : (k.sp.toList == s.toList) = true := by rw [x1]; simp
            have x2 : ¬ k.nm = m := fun e => hy (decide_eq_true ⟨x0, x1, e⟩)
            have t2 := str_ne2 x2
            have t3 := str_ne3 x2
            clear hch hy x0 x1 x2 cC
            go_upto_region 5 with fail
            simp only [← hw2]
            clear hw2
            go_wp2
            go_roundw
            case rel => exact ⟨i + 1, done, pv, cv, xs, by omega, by go_num, rfl, by omega, HCH.out, HC.out⟩
            case measure => simp [intOf]; omega
          · have t1 := str_ne2 x1
            have t3 := str_ne3 x1
            clear hch hy x0 x1 cC
            go_upto_region 5 with fail
            simp only [← hw2]
            clear hw2
            go_wp2
            go_roundw
            case rel => exact ⟨i + 1, done, pv, cv, xs, by omega, by go_num, rfl, by omega, HCH.out, HC.out⟩
            case measure => simp [intOf]; omega
        · have t0 : (k.kind == 0) = false := by simpa using x0
          clear hch hy x0 cC
          go_upto_region 5 with fail
          simp only [← hw2]
          clear hw2
          go_wp2
          go_roundw
          case rel => exact ⟨i + 1, done, pv, cv, xs, by omega, by go_num, rfl, by omega, HCH.out, HC.out⟩
          case measure => simp [intOf]; omega
    · obtain rfl : i = n.kids.length := by omega
      have hiz : ¬ (n.kids.length : Int) < (n.kids.length : Int) := by omega
      rw [List.drop_length] at hch
      have hd : chP s m n.kids = done := by rw [hch]; simp [chP]
      have HD := Lib.hid hd
      have HC := Lib.hid hC
      clear hC hch hd
      go_wp2
      refine bodyPost_ret (v := .slice pv done.length cv) (by simp [results, Tryd.results18, go_sem]) rfl ?_
      rw [HD.out]
      exact ⟨pv, cv, rfl, HC.out.list, HB0.out.trans (HC.out.below.mono HB0.out.size)⟩
def AtR (r : Option ByteArray) (w : World) (e : Ending) (w' : World) : Prop := e = .returned (.tuple #[.string (r.getD noB), .bool r.isSome]) ∧ Below w.heap.size w w'
theorem atP_step (s m : ByteArray) (al : List AttrD) (i : Nat) (h : i < al.length) : atP s m (al.drop i) = if al[i].sp = s ∧ al[i].nm = m then some al[i].va else atP s m (al.drop (i + 1)) := by
  rw [List.drop_eq_getElem_cons h, atP]
set_option maxRecDepth 100000 in
set_option maxHeartbeats 16000000 in
theorem nref_Attr (n : NodeD) (v : Value) (s m : ByteArray) (w : World) (hn : NodeIs w n v) (hl : n.al.length ≤ 10000000) : Calls Tryd.prog 21 #[v, .string s, .string m] w fun e w' => AtR (atP s m n.al) w e w' := by
  obtain ⟨pa, ca, pk, ck, rfl, hA, hK⟩ := (node_is w n v).1 hn
  have b0 : Below w.heap.size w (w.alloc (.cells #[.int .i64 n.kind, .string n.sp, .string n.nm, .slice pa n.al.length ca, .slice pk n.kids.length ck, .string n.tx, .int .i64 n.at'] 29)) := (Below.refl _ _).alloc (Nat.le_refl _) _
  have HN := Blk.new w #[.int .i64 n.kind, .string n.sp, .string n.nm, .slice pa n.al.length ca, .slice pk n.kids.length ck, .string n.tx, .int .i64 n.at'] 29
  obtain ⟨W, hW⟩ : ∃ W, W = w.alloc (.cells #[.int .i64 n.kind, .string n.sp, .string n.nm, .slice pa n.al.length ca, .slice pk n.kids.length ck, .string n.tx, .int .i64 n.at'] 29) := ⟨_, rfl⟩
  rw [← hW] at b0 HN
  have f3 := HN.cell 3
  simp only [List.getElem?_toArray, List.getElem?_cons_succ, List.getElem?_cons_zero] at f3
  have HB0 := Lib.hid b0
  have HA := Lib.hid (hA.below b0)
  have HF3 := Lib.hid f3
  clear hn hA hK b0 HN
  go_enter Tryd.func21, Tryd.ntmps21
  go_upto_region 1 with fail
  simp only [← hW]
  clear hW
  go_wp2
  go_loopw [8] (fun q wr => ∃ i : Nat, i ≤ n.al.length ∧ q = .int .i64 i ∧ atP s m n.al = atP s m (n.al.drop i) ∧ wr = W) (fun q _ => n.al.length - (intOf q).toNat)
  case atStart => exact ⟨0, Nat.zero_le _, rfl, rfl, rfl⟩
  case round =>
    obtain ⟨i, hi, rfl, hat, rfl⟩ := hrel
    by_cases hlt : i < n.al.length
    · have hiz : (i : Int) < (n.al.length : Int) := by omega
      rw [atP_step s m n.al i hlt] at hat
      obtain ⟨a, rfl, a0, a1, a2, a3⟩ := HA.out i hlt
      obtain ⟨x, hx⟩ : ∃ x, n.al[i] = x := ⟨_, rfl⟩
      rw [hx] at a0 a1 a2 a3 hat
      obtain ⟨cc, hcc⟩ : ∃ c, a.add (i * 4) = c := ⟨_, rfl⟩
      rw [hcc] at a0 a1 a2 a3
      simp only [Addr.add, Nat.reduceEqDiff, ↓reduceIte] at a1 a2 a3
      by_cases x1 : x.sp = s
      · have t1 : (x.sp.toList == s.toList) = true := by rw [x1]; simp
        by_cases x2 : x.nm = m
        · have t2 : (x.nm.toList == m.toList) = true := by rw [x2]; simp
          rw [if_pos ⟨x1, x2⟩] at hat
          have HAT := Lib.hid hat
          clear hat x1 x2 hx
          go_wp2
          refine bodyPost_ret (v := .tuple #[.string x.va, .bool true]) (by simp [results, Tryd.results21, go_sem]) rfl ?_
          rw [HAT.out]
          exact ⟨rfl, HB0.out⟩
        · have t2 := str_ne2 x2
          have t3 := str_ne3 x2
          rw [if_neg (fun h => x2 h.2)] at hat
          have HAT := Lib.hid hat
          clear hat x1 x2 hx
          go_wp2
          go_roundw
          case rel => exact ⟨i + 1, by omega, by go_num, HAT.out, trivial⟩
          case measure => simp [intOf]; omega
      · have t1 := str_ne2 x1
        have t3 := str_ne3 x1
        rw [if_neg (fun h => x1 h.1)] at hat
        have HAT := Lib.hid hat
        clear hat x1 hx
        go_wp2
        go_roundw
        case rel => exact ⟨i + 1, by omega, by go_num, HAT.out, trivial⟩
        case measure => simp [intOf]; omega
    · obtain rfl : i = n.al.length := by omega
      have hiz : ¬ (n.al.length : Int) < (n.al.length : Int) := by omega
      rw [List.drop_length, atP] at hat
      have HAT := Lib.hid hat
      clear hat
      go_wp2
      refine bodyPost_ret (v := .tuple #[.string ⟨#[]⟩, .bool false]) (by simp [results, Tryd.results21, go_sem]) rfl ?_
      rw [HAT.out]
      exact ⟨rfl, HB0.out⟩
set_option maxRecDepth 100000 in
set_option maxHeartbeats 16000000 in
theorem ns_Attr (n : NodeD) (v : Value) (s m : ByteArray) (w : World) (hn : NodeIs w n v) (hl : n.al.length ≤ 10000000) : Calls Tryd.prog 20 #[v, .string s, .string m] w fun e w' => AtR (atP s m n.al) w e w' := by
  obtain ⟨pa, ca, pk, ck, rfl, hA, hK⟩ := (node_is w n v).1 hn
  have b0 : Below w.heap.size w (w.alloc (.cells #[.int .i64 n.kind, .string n.sp, .string n.nm, .slice pa n.al.length ca, .slice pk n.kids.length ck, .string n.tx, .int .i64 n.at'] 29)) := (Below.refl _ _).alloc (Nat.le_refl _) _
  have HN := Blk.new w #[.int .i64 n.kind, .string n.sp, .string n.nm, .slice pa n.al.length ca, .slice pk n.kids.length ck, .string n.tx, .int .i64 n.at'] 29
  obtain ⟨W, hW⟩ : ∃ W, W = w.alloc (.cells #[.int .i64 n.kind, .string n.sp, .string n.nm, .slice pa n.al.length ca, .slice pk n.kids.length ck, .string n.tx, .int .i64 n.at'] 29) := ⟨_, rfl⟩
  rw [← hW] at b0 HN
  have f3 := HN.cell 3
  simp only [List.getElem?_toArray, List.getElem?_cons_succ, List.getElem?_cons_zero] at f3
  have HB0 := Lib.hid b0
  have HA := Lib.hid (hA.below b0)
  clear hn hA hK b0 HN
  go_enter Tryd.func20, Tryd.ntmps20
  go_upto_region 1 with fail
  simp only [← hW]
  clear hW
  go_wp2
  go_loopw [13] (fun q wr => ∃ i : Nat, i ≤ n.al.length ∧ q = .int .i64 i ∧ atP s m n.al = atP s m (n.al.drop i) ∧ Below W.heap.size W wr) (fun q _ => n.al.length - (intOf q).toNat)
  case atStart => exact ⟨0, Nat.zero_le _, rfl, rfl, Below.refl _ _⟩
  case round =>
    clear f3
    obtain ⟨i, hi, rfl, hat, hb⟩ := hrel
    by_cases hlt : i < n.al.length
    · have hiz : (i : Int) < (n.al.length : Int) := by omega
      rw [atP_step s m n.al i hlt] at hat
      obtain ⟨a, rfl, a0, a1, a2, a3⟩ := (HA.out.below hb) i hlt
      obtain ⟨x, hx⟩ : ∃ x, n.al[i] = x := ⟨_, rfl⟩
      rw [hx] at a0 a1 a2 a3 hat
      obtain ⟨cc, hcc⟩ : ∃ c, a.add (i * 4) = c := ⟨_, rfl⟩
      rw [hcc] at a0 a1 a2 a3
      simp only [Addr.add, Nat.reduceEqDiff, ↓reduceIte] at a1 a2 a3
      have HB1 := Lib.hid (hb.alloc hb.size (.cells #[.string x.sp, .string x.nm, .string x.va, .int .i64 x.at'] 43))
      clear hb
      by_cases x1 : x.sp = s
      · have t1 : (x.sp.toList == s.toList) = true := by rw [x1]; simp
        by_cases x2 : x.nm = m
        · have t2 : (x.nm.toList == m.toList) = true := by rw [x2]; simp
          rw [if_pos ⟨x1, x2⟩] at hat
          have HAT := Lib.hid hat
          clear hat x1 x2 hx
          go_wp2
          refine bodyPost_ret (v := .tuple #[.string x.va, .bool true]) (by simp [results, Tryd.results20, go_sem]) rfl ?_
          rw [HAT.out]
          exact ⟨rfl, HB0.out.trans (HB1.out.mono HB0.out.size)⟩
        · have t2 := str_ne2 x2
          have t3 := str_ne3 x2
          rw [if_neg (fun h => x2 h.2)] at hat
          have HAT := Lib.hid hat
          clear hat x1 x2 hx
          go_wp2
          go_roundw
          case rel => exact ⟨i + 1, by omega, by go_num, HAT.out, HB1.out⟩
          case measure => simp [intOf]; omega
      · have t1 := str_ne2 x1
        have t3 := str_ne3 x1
        rw [if_neg (fun h => x1 h.1)] at hat
        have HAT := Lib.hid hat
        clear hat x1 hx
        go_wp2
        go_roundw
        case rel => exact ⟨i + 1, by omega, by go_num, HAT.out, HB1.out⟩
        case measure => simp [intOf]; omega
    · obtain rfl : i = n.al.length := by omega
      have hiz : ¬ (n.al.length : Int) < (n.al.length : Int) := by omega
      rw [List.drop_length, atP] at hat
      have HAT := Lib.hid hat
      have HB1 := Lib.hid hb
      clear hat hb
      go_wp2
      refine bodyPost_ret (v := .tuple #[.string ⟨#[]⟩, .bool false]) (by simp [results, Tryd.results20, go_sem]) rfl ?_
      rw [HAT.out]
      exact ⟨rfl, HB0.out.trans (HB1.out.mono HB0.out.size)⟩
end Go.Proofs.YtoehcholbcchcaaDoor
end
