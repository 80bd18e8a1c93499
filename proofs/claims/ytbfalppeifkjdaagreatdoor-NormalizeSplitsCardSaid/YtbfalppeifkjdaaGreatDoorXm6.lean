/- Packed from the texts NnF NnG. -/
import Derived.Test.YtbfalppeifkjdaaGreatDoorXMeJ
import Derived.Test.YtbfalppeifkjdaaGreatDoorXNnE
import Derived.Test.YtbfalppeifkjdaaGreatDoorXm3
import Derived.Maps.AppendAt
import Derived.Laws.OwnMore
section
namespace Go.Proofs.YtbfalppeifkjdaaGreatDoor
open Go.RowKit
theorem run_append_void {P : Program} {w : World} (base : Nat) (t ty e : TypeId) (i : TypeInfo) (size : Nat) (ht : P.underlying t = some (.slice e)) (hi : P.info? e = some i) (c : Nat)
    (v : Value) (n : Nat) (xs : List Value) (hown : w.ownsRow base e size v n xs) :
    (Builtin.append_ #[t, t] ty #[v, .slice none 0 c]).run P w = .ok v w := by
  rcases hown.2 with ⟨rfl, rfl⟩ | ⟨g, cap, cur, rfl, _, _, hnc, _⟩
  · simp [Builtin.append_, run_underlying ht, sizeOf, typeInfo, hi, Builtin.lenOf, Builtin.firstCells]
  · simp [Builtin.append_, run_underlying ht, sizeOf, typeInfo, hi, Builtin.lenOf, Builtin.firstCells, hnc, storeCells]
theorem wpList_append_any {P : Program} (w : World) {ops : Array Oper} {rest : List Oper} {o : Oper} {a : Act} {Q : Exit → Act → World → Prop} (hgd : o.guard = none) (s x : Operand) (t : TypeId)
    (ho : o.op = .call { callee := .builtin .append, args := #[s, x], argTypes := #[t, t] })
    (base : Nat) (e : TypeId) (i : TypeInfo) (z : Value) (size bytes : Nat) (ht : P.underlying t = some (.slice e)) (hi : P.info? e = some i) (hz : i.zero = some z)
    (hsize : i.size = size) (hby : i.bytes = bytes) (hzs : z.cells.size = size) (hsz : 0 < size)
    (v : Value) (n : Nat) (xs : List Value) (hs : a.eval s = v) (hown : w.ownsRow base e size v n xs)
    (p : Option Addr) (m c : Nat) (news : List Value) (hx : a.eval x = .slice p m c) (hl : news.length = m * size) (hnews : ∀ j u, news[j]? = some u → ∃ ad, p = some ad ∧ w.cell? (ad.add j) = some u) (h1 : ∀ u ∈ news, u.oneCell' = true)
    (h63 : n + m ≤ maxLen) (hbytes : (n + m) * bytes ≤ 140737488355328) (hbase : base ≤ w.heap.size)
    (h : ∀ v' w', w'.ownsRow base e size v' (n + m) (xs ++ news) → w.grownBy w' v.ownBlock → wpList P ops Q rest (a.put o.dst v') w') : wpList P ops Q (o :: rest) a w := by
  cases p with
  | some ad =>
    exact wpList_append_own w hgd s x t ho base e i z size bytes ht hi hz hsize hby hzs hsz v n xs hs hown ad m c news hx hl (fun j u hj => by obtain ⟨b, hb, hc⟩ := hnews j u hj; cases hb; exact hc) h1 h63 hbytes hbase (fun v' w' h2 h3 _ => h v' w' h2 h3)
  | none =>
    have hnil : news = [] := by
      cases news with
      | nil => rfl
      | cons u r => obtain ⟨b, hb, -⟩ := hnews 0 u rfl; cases hb
    subst hnil
    have hm : m = 0 := by
      rcases Nat.eq_zero_or_pos m with h0 | h0
      · exact h0
      · have := Nat.mul_pos h0 hsz
        rw [← hl] at this
        exact absurd this (Nat.lt_irrefl _)
    subst hm
    refine wpList_plain hgd fun K hK => ?_
    have hrun := run_append_void (P := P) (w := w) base t o.type e i size ht hi c v n xs hown
    unfold Oper.wp
    simp [execOp, ho, resolve, invoke, builtin, hs, hx, hrun, Result.andThen]
    exact hK _ _ (h v w (by rw [Nat.add_zero, List.append_nil]; exact hown) ⟨rfl, rfl, rfl, Nat.le_refl _, fun _ _ _ => rfl⟩)
theorem rw_news {α : Type} {k : Nat} {enc : α → List Value} (hk : ∀ x, (enc x).length = k) {w : World} {p : Option Addr} {l : List α} (h : RwAt k enc w p l) : ∀ j u, (rowC enc l)[j]? = some u → ∃ b, p = some b ∧ w.cell? (b.add j) = some u := fun j u hj => by
  have hlt := (List.getElem?_eq_some_iff.1 hj).1
  rw [rowC_len k hk] at hlt
  have hk0 : 0 < k := by
    rcases Nat.eq_zero_or_pos k with e | e
    · rw [e] at hlt; simp at hlt
    · exact e
  have hi : j / k < l.length := (Nat.div_lt_iff_lt_mul hk0).2 hlt
  have hc : j % k < k := Nat.mod_lt _ hk0
  have e : j / k * k + j % k = j := by rw [Nat.mul_comm]; exact Nat.div_add_mod j k
  obtain ⟨b, hb, hcell⟩ := h (j / k) hi
  refine ⟨b, hb, ?_⟩
  have h1 := rowC_at hk l (j / k) hi (j % k) hc
  rw [e, hj] at h1
  have := hcell (j % k) u h1.symm
  rwa [add_add, e] at this
def strC (s : ByteArray) : List Value := [.string s]
theorem strC_len (s : ByteArray) : (strC s).length = 1 := rfl
theorem strC_one (x : ByteArray) : ∀ u ∈ strC x, u.oneCell' = true := by
  intro u hu
  simp only [strC, List.mem_cons, List.not_mem_nil, or_false] at hu
  rw [hu]
  rfl
theorem strC_row (l : List ByteArray) : rowC strC l = l.map Value.string := by
  induction l with
  | nil => rfl
  | cons x r ih => show strC x ++ rowC strC r = _; rw [ih]; rfl
theorem nam_rw {w : World} {p : Option Addr} {l : List ByteArray} (h : NamAt w p l) : RwAt 1 strC w p l := fun i hi => by
  obtain ⟨a, ha, hc⟩ := h i hi
  refine ⟨a, ha, fun c u hu => ?_⟩
  match c with
  | 0 => cases hu; rw [Nat.mul_one, add_add, Nat.add_zero]; exact hc
theorem rw_nam {w : World} {p : Option Addr} {l : List ByteArray} (h : RwAt 1 strC w p l) : NamAt w p l := fun i hi => by
  obtain ⟨a, ha, hc⟩ := h i hi
  have := hc 0 _ rfl
  rw [Nat.mul_one, add_add, Nat.add_zero] at this
  exact ⟨a, ha, this⟩
set_option maxRecDepth 100000 in
set_option maxHeartbeats 4000000 in
theorem nz_growS (n : Nat) (w : World) (hn : n ≤ 1000000) : Calls Tryz.prog 51 #[.slice none 0 0, .int .i64 (n : Int)] w fun e w' => ∃ v, e = .returned v ∧ w'.ownsRow w.heap.size 9 1 v 0 [] ∧ Below w.heap.size w w' := by
  obtain ⟨i0, hi0, hi1, hi3, hi4⟩ := info_parts mstr_info
  by_cases h0 : n = 0
  · subst h0
    have hcon := Go.Proofs.Any8.slices_Grow_room Tryz.growS none 0 0 0 w (Nat.le_refl _) (by omega) (by omega) (Nat.le_refl _)
    refine Calls.mono (show Calls Tryz.prog 51 _ _ _ from hcon) ?_
    rintro e w' ⟨rfl, rfl⟩
    exact ⟨_, rfl, World.ownsRow_nil _ _ _ _, Below.refl _ _⟩
  · have hcon := Go.Proofs.Any8.slices_Grow_grow Tryz.growS i0 (.string ⟨#[]⟩) hi0 hi1 (by rw [hi3]; decide) none 0 0 n [] w (Nat.le_refl _) (by omega) (by rw [hi4]; omega) (by omega) (by simp) (fun _ => rfl) (fun a ha => by cases ha)
    refine Calls.mono (show Calls Tryz.prog 51 _ _ _ from hcon) ?_
    rintro e w' ⟨rfl, rfl⟩
    refine ⟨_, rfl, ?_, ((Below.refl w.heap.size w).drew).alloc (Nat.le_refl _) _⟩
    have hg1 := grownCap_ge w (0 + n) 0 (Tryz.growS_ren.t 25)
    have hg2 := grownCap_le_maxLen w (0 + n) 0 (Tryz.growS_ren.t 25) (by unfold maxLen; omega)
    refine World.ownsRow_made (base := w.heap.size) (e := 9) (size := 1) w.drew _ _ (Nat.le_refl _) hg2 ?_
    have hzz : (Value.cells (.string ⟨#[]⟩)).size = 1 := rfl
    simp only [Array.size_append, size_zeroCells, hzz, List.size_toArray, List.length_nil]
    rw [Nat.zero_add, ← Nat.add_mul, show 0 + n - 0 + (grownCap w (0 + n) 0 (Tryz.growS_ren.t 25) - (0 + n)) = grownCap w (0 + n) 0 (Tryz.growS_ren.t 25) by omega]
set_option maxRecDepth 100000 in
set_option maxHeartbeats 16000000 in
theorem nz_concatS (ps : List (Option Addr × Nat × List ByteArray)) (a : Addr) (c : Nat) (w : World) (hr : ∀ i (h : i < ps.length), w.cell? (a.add i) = some (.slice ps[i].1 ps[i].2.2.length ps[i].2.1)) (hl : ∀ x ∈ ps, RwAt 1 strC w x.1 x.2.2) (hn : ps.length ≤ 10) (ht : (ps.flatMap fun x => x.2.2).length ≤ 1000000) :
    Calls Tryz.prog 34 #[.slice (some a) ps.length c] w fun e w' => ∃ v, e = .returned v ∧ w'.ownsRow w.heap.size 9 1 v (ps.flatMap fun x => x.2.2).length (rowC strC (ps.flatMap fun x => x.2.2)) ∧ Below w.heap.size w w' := by
  obtain ⟨i0, hi0, hi1, hi3, hi4⟩ := info_parts mstr_info
  have hnz : (ps.length : Int) ≤ 10 := by omega
  have hR : Hid (∀ i (h : i < ps.length), w.cell? (a.add i) = some (.slice ps[i].1 ps[i].2.2.length ps[i].2.1)) := hr
  have hL : Hid (∀ x ∈ ps, RwAt 1 strC w x.1 x.2.2) := hl
  have hT : Hid ((ps.flatMap fun x => x.2.2).length ≤ 1000000) := ht
  have hpre : Hid (∀ i, ((ps.take i).flatMap fun x => x.2.2).length ≤ 1000000) := Lib.hid (fun i => by
    refine Nat.le_trans ?_ ht
    have e : ps.flatMap (fun x => x.2.2) = (ps.take i).flatMap (fun x => x.2.2) ++ (ps.drop i).flatMap (fun x => x.2.2) := by rw [← List.flatMap_append, List.take_append_drop]
    rw [e, List.length_append]
    exact Nat.le_add_right _ _)
  obtain ⟨XS, hXS⟩ : ∃ XS, (ps.flatMap fun x => x.2.2) = XS := ⟨_, rfl⟩
  rw [hXS]
  have HXS := Lib.hid hXS
  clear hr hl ht hXS
  go_enter Tryz.func34, Tryz.ntmps34
  go_wp2
  go_loopw [3, 11] (fun s q wr => ∃ i : Nat, i ≤ ps.length ∧ q = .int .i64 (i : Int) ∧ s = .int .i64 ((((ps.take i).flatMap fun x => x.2.2).length : Nat) : Int) ∧ w = wr) (fun _ q _ => ps.length - (RowKit.intOf q).toNat)
  case atStart => exact ⟨0, Nat.zero_le _, rfl, rfl, rfl⟩
  case round =>
    obtain ⟨i, hi, rfl, rfl, rfl⟩ := hrel
    by_cases hlt : i < ps.length
    · have hiz : (i : Int) < (ps.length : Int) := by omega
      have hc := hR.out i hlt
      have hs : ((ps.take (i + 1)).flatMap fun x => x.2.2).length = ((ps.take i).flatMap fun x => x.2.2).length + ps[i].2.2.length := by rw [List.take_succ_eq_append_getElem hlt, List.flatMap_append, List.length_append]; simp
      have h1 := hpre.out (i + 1)
      obtain ⟨m, hm⟩ : ∃ m, ((ps.take i).flatMap fun x => x.2.2).length = m := ⟨_, rfl⟩
      obtain ⟨d, hd⟩ : ∃ d, ps[i].2.2.length = d := ⟨_, rfl⟩
      rw [hm, hd] at hs
      rw [hs] at h1
      rw [hd] at hc
      have HS := Lib.hid hs
      have HM := Lib.hid hm
      have hmz : (m : Int) + (d : Int) ≤ 1000000 := by omega
      have hm0 : (0 : Int) ≤ (m : Int) := by omega
      have hd0 : (0 : Int) ≤ (d : Int) := by omega
      have hng : ¬ (m : Int) + (d : Int) < 0 := by omega
      have hwm : IntKind.i64.wrap ((m : Int) + (d : Int)) = (m : Int) + (d : Int) := wrap_small _ (by omega) (by omega)
      obtain ⟨aa, haa⟩ : ∃ aa, a.add i = aa := ⟨_, rfl⟩
      rw [haa] at hc
      generalize ps[i].1 = p1 at hc
      generalize ps[i].2.1 = c1 at hc
      clear hs hm hd h1
      rw [HM.out]
      clear HM
      go_wp2
      go_roundw
      case rel => exact ⟨i + 1, by omega, by go_num, by rw [HS.out]; push_cast; rfl, trivial⟩
      case measure => simp [RowKit.intOf]; omega
    · obtain rfl : i = ps.length := by omega
      have hiz : ¬ (ps.length : Int) < (ps.length : Int) := by omega
      rw [List.take_length]
      have cG := nz_growS (ps.flatMap fun x => x.2.2).length w hT.out
      have hO0 : ∀ (v : Value) (w1 : World), w1.ownsRow w.heap.size 9 1 v 0 [] → Below w.heap.size w w1 → OutAt 9 1 strC (fun _ _ => True) w.heap.size [] v [] w1 := fun v w1 h hb => ⟨h, fun _ _ => trivial, hb.size⟩
      have HO0 := Lib.hid hO0
      obtain ⟨tot, htot⟩ : ∃ t, (ps.flatMap fun x => x.2.2).length = t := ⟨_, rfl⟩
      rw [htot] at cG ⊢
      clear hO0 htot
      go_wp2_with fail
      refine cG.mono ?_
      rintro e w1 ⟨v1, rfl, hv1, b1⟩
      have HO1 := Lib.hid (HO0.out v1 w1 hv1 b1)
      have HB1 := Lib.hid b1
      clear hv1 b1 cG HO0
      go_wp2
      go_loopw [6, 27] (fun u q wr => ∃ (i : Nat) (v : Value), i ≤ ps.length ∧ q = .int .i64 (i : Int) ∧ v = u ∧ OutAt 9 1 strC (fun _ _ => True) w.heap.size [] v ((ps.take i).flatMap fun x => x.2.2) wr ∧ Below w.heap.size w wr) (fun _ q _ => ps.length - (RowKit.intOf q).toNat)
      case atStart => exact ⟨0, v1, Nat.zero_le _, rfl, rfl, HO1.out, HB1.out⟩
      case round =>
        clear HO1 HB1
        obtain ⟨i, v, hi, rfl, rfl, hO, hb⟩ := hrel
        by_cases hlt : i < ps.length
        · have hiz2 : (i : Int) < (ps.length : Int) := by omega
          have hc := (hb.cell (mblock_lt (hR.out i hlt))).trans (hR.out i hlt)
          have hs : (ps.take (i + 1)).flatMap (fun x => x.2.2) = ((ps.take i).flatMap fun x => x.2.2) ++ ps[i].2.2 := by rw [List.take_succ_eq_append_getElem hlt, List.flatMap_append]; simp
          have h1 := hpre.out (i + 1)
          have hrw := (hL.out ps[i] (List.getElem_mem _)).below hb
          rw [hs, List.length_append] at h1
          obtain ⟨xs, hxs⟩ : ∃ xs, (ps.take i).flatMap (fun x => x.2.2) = xs := ⟨_, rfl⟩
          rw [hxs] at hs hO h1
          obtain ⟨ys, hys⟩ : ∃ ys, ps[i].2.2 = ys := ⟨_, rfl⟩
          rw [hys] at hs h1 hc hrw
          obtain ⟨p1, hp1⟩ : ∃ p, ps[i].1 = p := ⟨_, rfl⟩
          rw [hp1] at hc hrw
          generalize ps[i].2.1 = c1 at hc
          obtain ⟨aa, haa⟩ : ∃ aa, a.add i = aa := ⟨_, rfl⟩
          rw [haa] at hc
          have hrow := hO.row
          have hsz := hO.size
          have HS := Lib.hid hs
          have HO := Lib.hid hO
          have HB := Lib.hid hb
          have hcl : (rowC strC ys).length = ys.length * 1 := rowC_len 1 strC_len ys
          have h1c := rowC_cell strC_one ys
          have hnews : ∀ j u, (rowC strC ys)[j]? = some u → ∃ b, p1 = some b ∧ wr.cell? (b.add j) = some u := rw_news strC_len hrw
          clear hs hxs hys hp1 hO hb hrw
          go_wp2_with (at_builtin; refine wpList_append_any _ rfl (.tmp 31) (.tmp 32) 32 rfl w.heap.size 9 i0 (.string ⟨#[]⟩) 1 16 Tryz.underlying32 hi0 hi1 hi3 hi4 rfl (by decide) v xs.length (rowC strC xs) rfl hrow p1 ys.length c1 (rowC strC ys) rfl hcl hnews h1c (by unfold maxLen; omega) (by omega) hsz ?_; intro v2 w2 hown2 hgr2)
          have HN : Hid (OutAt 9 1 strC (fun _ _ => True) w.heap.size [] v2 (xs ++ ys) w2) := Lib.hid ⟨by rw [List.length_append, rowC_app]; exact hown2, fun _ _ => trivial, Nat.le_trans HO.out.size hgr2.size⟩
          have HB2 := Lib.hid (HO.out.below HB.out (Nat.le_refl _) hgr2)
          clear hown2 hgr2 hnews h1c hcl hrow
          go_wp2
          go_roundw
          case rel => exact ⟨i + 1, v2, by omega, by go_num, rfl, by rw [HS.out]; exact HN.out, HB2.out⟩
          case measure => simp [RowKit.intOf]; omega
        · obtain rfl : i = ps.length := by omega
          have hiz2 : ¬ (ps.length : Int) < (ps.length : Int) := by omega
          rw [List.take_length] at hO
          have HO := Lib.hid hO
          have HB := Lib.hid hb
          clear hO hb
          go_wp2
          go_ret
          refine ⟨v, rfl, ?_, HB.out⟩
          have hrw := HO.out.row
          rw [HXS.out] at hrw
          exact hrw
set_option maxRecDepth 100000 in
set_option maxHeartbeats 16000000 in
theorem nz_collapsed (l : List ByteArray) (p : Option Addr) (c : Nat) (w : World) (hl : NamAt w p l) (hs : ∀ s ∈ l, s.size ≤ 1000000000) (hn : l.length ≤ 1000000) :
    Calls Tryz.prog 35 #[.slice p l.length c] w fun e w' => ∃ v, e = .returned v ∧ w'.ownsRow w.heap.size 9 1 v l.length (rowC strC (l.map colB)) ∧ Below w.heap.size w w' := by
  obtain ⟨i0, hi0, hi1, hi3, hi4⟩ := info_parts mstr_info
  have HL := Lib.hid hl
  have HS := Lib.hid hs
  have hnz : (l.length : Int) ≤ 1000000 := by omega
  have HO0 : Hid (OutAt 9 1 strC (fun _ _ => True) w.heap.size [] (.slice none 0 0) [] w) := Lib.hid (OutAt.nil w (Nat.le_refl _))
  have hMono : OkMono (fun (_ : World) (_ : ByteArray) => True) := fun _ _ _ _ _ => trivial
  have HMO := Lib.hid hMono
  clear hl hs hMono
  go_enter Tryz.func35, Tryz.ntmps35
  go_wp2
  go_loopw [3, 8] (fun u q wr => ∃ (i : Nat) (v : Value), i ≤ l.length ∧ q = .int .i64 (i : Int) ∧ v = u ∧ OutAt 9 1 strC (fun _ _ => True) w.heap.size [] v ((l.take i).map colB) wr ∧ Below w.heap.size w wr) (fun _ q _ => l.length - (RowKit.intOf q).toNat)
  case atStart => exact ⟨0, _, Nat.zero_le _, rfl, rfl, HO0.out, Below.refl _ _⟩
  case round =>
    clear HO0
    obtain ⟨i, v, hi, rfl, rfl, hO, hb⟩ := hrel
    have hz := hb.size
    by_cases hlt : i < l.length
    · have hiz : (i : Int) < (l.length : Int) := by omega
      obtain ⟨a, rfl, ca⟩ := HL.out.below hb i hlt
      have htk : (l.take (i + 1)).map colB = (l.take i).map colB ++ [colB l[i]] := by rw [List.take_succ_eq_append_getElem hlt, List.map_append]; rfl
      obtain ⟨x, hx⟩ : ∃ x, l[i] = x := ⟨_, rfl⟩
      have hxs := HS.out x (by rw [← hx]; exact List.getElem_mem _)
      rw [hx] at ca htk
      obtain ⟨aa, haa⟩ : ∃ aa, a.add i = aa := ⟨_, rfl⟩
      rw [haa] at ca
      have cK := text_Collapse x wr (by omega)
      obtain ⟨y, hy⟩ : ∃ y, y = colB x := ⟨_, rfl⟩
      rw [← hy] at htk
      rw [show ofBytes (collapse x.data.toList) = y by rw [hy]; rfl] at cK
      have hlen : ((l.take i).map colB).length = i := by rw [List.length_map, List.length_take]; omega
      obtain ⟨ys, hys⟩ : ∃ ys, (l.take i).map colB = ys := ⟨_, rfl⟩
      rw [hys] at hO htk hlen
      have HO := Lib.hid hO
      have HB := Lib.hid hb
      have HTK := Lib.hid htk
      clear hO hb htk hx hxs hy hys
      go_wp2_with fail
      refine cK.mono ?_
      rintro e w4 ⟨rfl, b4⟩
      have hO4 := HO.out.more HMO.out b4
      have hB4 := HB.out.trans (b4.mono HB.out.size)
      obtain ⟨W6, hW6⟩ : ∃ W6, W6 = w4.alloc (.cells #[.string y] 9) := ⟨_, rfl⟩
      have hb6 : Below w4.heap.size w4 W6 := by rw [hW6]; exact (Below.refl _ _).alloc (Nat.le_refl _) _
      have hnews : ∀ j u, ([.string y] : List Value)[j]? = some u → W6.cell? ((⟨w4.heap.size, 0, none⟩ : Addr).add j) = some u := by
        rw [hW6]
        exact World.news_of_block (heap_alloc_new w4 (.cells #[.string y] 9))
      have hO6 := hO4.more HMO.out hb6
      have hB6 := hB4.trans (hb6.mono hB4.size)
      have hrow6 := hO6.row
      have h1c := strC_one y
      have hBw6 : w.heap.size ≤ W6.heap.size := hO6.size
      have hLN : ([.string y] : List Value).length = 1 * 1 := rfl
      have hyz : ys.length ≤ 1000000 := by omega
      have HO6 := Lib.hid hO6
      have HB6 := Lib.hid hB6
      clear HO HB hO4 hB4 b4 hO6 hB6 hb6 cK ca
      subst hW6
      go_wp2_with (at_builtin; refine wpList_append_lies _ rfl (.tmp 12) (.tmp 15) 32 rfl w.heap.size 9 i0 (.string ⟨#[]⟩) 1 16 Tryz.underlying32 hi0 hi1 hi3 hi4 rfl (by decide) v ys.length (rowC strC ys) rfl hrow6 ⟨w4.heap.size, 0, none⟩ 1 1 [.string y] rfl hLN hnews h1c (by decide) (by unfold maxLen; omega) (by omega) hBw6 _ rfl ?_; intro g7 cap7 w7 hown7 hgr7 hat7 hlt7)
      have HN2 := Lib.hid (HO6.out.put (x := y) HMO.out trivial rfl hown7 hgr7 hat7)
      have HB7 := Lib.hid (HO6.out.below HB6.out (Nat.le_refl _) hgr7)
      clear hown7 hgr7 hat7 hlt7 hnews hrow6 h1c HO6 HB6
      go_wp2
      go_roundw
      case rel => exact ⟨i + 1, _, by omega, by go_num, by first | rfl | rw [hlen], by rw [HTK.out, ← hlen]; exact HN2.out, HB7.out⟩
      case measure => simp [RowKit.intOf]; omega
    · obtain rfl : i = l.length := by omega
      have hiz : ¬ (l.length : Int) < (l.length : Int) := by omega
      rw [List.take_length] at hO
      have hrow := hO.row
      rw [List.length_map] at hrow
      have HR := Lib.hid hrow
      have HB := Lib.hid hb
      clear hO hb hrow
      go_wp2
      go_ret
      exact ⟨_, rfl, HR.out, HB.out⟩
end Go.Proofs.YtbfalppeifkjdaaGreatDoor
end
section
namespace Go.Proofs.YtbfalppeifkjdaaGreatDoor
open Go.RowKit
def RwF {α : Type} (k : Nat) (enc : α → List Value) (w : World) (p : Option Addr) (l : List α) : Prop := ∀ i (h : i < l.length), ∃ a, p = some a ∧ ∀ c u, (enc l[i])[c]? = some u → w.cell? ((a.add (i * k)).add c) = some u ∧ w.frozen? ((a.add (i * k)).add c) = false
theorem RwF.rw {α : Type} {k : Nat} {enc : α → List Value} {w : World} {p : Option Addr} {l : List α} (h : RwF k enc w p l) : RwAt k enc w p l := fun i hi => by
  obtain ⟨a, ha, hc⟩ := h i hi
  exact ⟨a, ha, fun c u hu => (hc c u hu).1⟩
theorem RwF.mono {α : Type} {k : Nat} {enc : α → List Value} {w w' : World} {p : Option Addr} {l : List α} (hm : ∀ a v, w.cell? a = some v → w'.cell? a = some v ∧ w'.frozen? a = w.frozen? a) (h : RwF k enc w p l) : RwF k enc w' p l := fun i hi => by
  obtain ⟨a, ha, hc⟩ := h i hi
  refine ⟨a, ha, fun c u hu => ?_⟩
  have h1 := hc c u hu
  have h2 := hm _ _ h1.1
  exact ⟨h2.1, h2.2.trans h1.2⟩
theorem NewRow.far {α : Type} {k : Nat} {enc : α → List Value} {B : Nat} {p : Option Addr} {n cap : Nat} {xs : List α} {w : World} {M : List Nat} (h : NewRow k enc B (.slice p n cap) xs w) (hM : ∀ j ∈ M, j < B) : RwF k enc (holes w M) p xs := fun i hi => by
  obtain ⟨p', cap', e, -, hx⟩ := h
  obtain ⟨g, hg, hB, -, hc⟩ := hx (fun e => by rw [e] at hi; exact absurd hi (Nat.not_lt_zero _))
  cases e
  refine ⟨_, hg, fun c u hu => ?_⟩
  rw [add_two3]
  have hn : g ∉ M := fun e => by have := hM g e; omega
  obtain ⟨h1, h2⟩ := hc i hi c u hu
  exact ⟨(holes_out (a := ⟨g, i * k + c, none⟩) hn).trans h1, (World.frozen?_of_block (a := ⟨g, i * k + c, none⟩) (holes_ne w M g hn)).trans h2⟩
structure FC where
  f : FeedD
  p : Option Addr
  c : Nat
  q : Option Addr
  d : Nat
def fcCells (x : FC) : List Value := [.slice x.p x.f.path.length x.c, .string x.f.id, .string x.f.title, .string x.f.link, .int .i64 x.f.upd, .slice x.q x.f.ents.length x.d]
def fcV (x : FC) : Value := .agg #[.slice x.p x.f.path.length x.c, .string x.f.id, .string x.f.title, .string x.f.link, .int .i64 x.f.upd, .slice x.q x.f.ents.length x.d]
def fcKey (x : FC) : ByteArray := x.f.id
def fcOk (w : World) (x : FC) : Prop := RwF 1 strC w x.p x.f.path ∧ RwF 5 entCells w x.q x.f.ents
theorem fcOk_mono : OkMono fcOk := fun _ _ _ hm h => ⟨h.1.mono hm, h.2.mono hm⟩
theorem fcOk.is {w : World} {x : FC} {L : List Nat} (h : fcOk (holes w L) x) : FeedIs w x.f (fcV x) := by
  have hh : ∀ a v, (holes w L).cell? a = some v → w.cell? a = some v := fun a v hc => (holes_cell hc).1
  exact ⟨x.p, x.c, x.q, x.d, rfl, rw_nam (h.1.rw.mono hh), ents_rw (h.2.rw.mono hh)⟩
theorem fcCells_len (x : FC) : (fcCells x).length = 6 := rfl
theorem fc_one (x : FC) : ∀ u ∈ fcCells x, u.oneCell' = true := by
  intro u hu
  simp only [fcCells, List.mem_cons, List.not_mem_nil, or_false] at hu
  rcases hu with rfl | rfl | rfl | rfl | rfl | rfl <;> rfl
theorem nz_infoF : (Tryz.prog.info? 35).map (fun i => (i.zero, i.size, i.bytes)) = some (some (.agg #[.slice none 0 0, .string ⟨#[]⟩, .string ⟨#[]⟩, .string ⟨#[]⟩, .int .i64 0, .slice none 0 0]), 6, 104) := by kernel_rfl
theorem nz_zeroSF (w : World) : (zeroValue 37).run Tryz.prog w = .ok (.slice none 0 0) w := by kernel_rfl
theorem ncolGo_length : ∀ (l : List UInt8) (st pv : Bool), (colGo st pv l).length ≤ l.length + (if st && pv then 1 else 0)
  | [], _, _ => by simp [colGo]
  | c :: r, st, pv => by
    have i1 := ncolGo_length r st true
    have i2 := ncolGo_length r true false
    unfold colGo
    split
    · refine Nat.le_trans i1 ?_
      simp only [List.length_cons]
      split <;> split <;> omega
    · split
      · simp only [List.length_cons] at i2 ⊢
        simp at i2
        omega
      · simp only [List.length_cons] at i2 ⊢
        simp at i2
        omega
theorem colB_size (s : ByteArray) : (colB s).size ≤ s.size := by
  have h := ncolGo_length s.data.toList false false
  have e : (colB s).size = (collapse s.data.toList).length := ofBytes_size _
  rw [e]
  have : s.data.toList.length = s.size := by simp
  simp at h
  unfold collapse
  omega
theorem entN_eok {x : EntD} (h : (x.id.size ≤ 5000 ∧ x.title.size ≤ 5000 ∧ x.link.size ≤ 5000 ∧ x.content.size ≤ 5000) ∧ -9223372036854775808 ≤ x.upd ∧ x.upd ≤ 9223372036854775807) : EOk (entN x) :=
  ⟨⟨Nat.le_trans (colB_size _) h.1.1, Nat.le_trans (colB_size _) h.1.2.1, Nat.le_trans (colB_size _) h.1.2.2.1, Nat.le_trans (colB_size _) h.1.2.2.2⟩, h.2⟩
theorem nz_contains (l : List ByteArray) (p : Option Addr) (c : Nat) (w : World) (hl : NamAt w p l) (hn : l.length ≤ 1000000) :
    Calls Tryz.prog 52 #[.slice p l.length c, .string ⟨#[]⟩] w fun e w' => e = .returned (.bool (l.any fun s => decide (s.size = 0))) ∧ w = w' := by
  by_cases h0 : l = []
  · subst h0
    exact (Tryz.slices_Contains_string_empty p c ⟨#[]⟩ w).mono fun _ _ ⟨he, hw⟩ => ⟨he, hw.symm⟩
  · have hpos : 0 < l.length := List.length_pos_iff.2 h0
    obtain ⟨a, rfl, ca⟩ := hl 0 hpos
    have ha : a.add 0 = a := by unfold Addr.add; rw [if_pos rfl]
    rw [ha] at ca
    obtain ⟨b, off, sp⟩ := a
    have hsp : sp = none := by
      cases sp with
      | none => rfl
      | some s => unfold World.cell? at ca; split at ca <;> simp at ca
    subst hsp
    have hc : ∀ j, j < l.length → w.cell? ⟨b, off + j, none⟩ = some (.string (l.getD j ByteArray.empty)) := fun j hj => by
      obtain ⟨a', ha', hcj⟩ := hl j hj
      cases ha'
      have e : (⟨b, off, none⟩ : Addr).add j = ⟨b, off + j, none⟩ := by unfold Addr.add; split <;> simp_all
      rw [e] at hcj
      rw [hcj]
      simp [List.getD, hj]
    refine (Tryz.slices_Contains_string b off l.length c l ⟨#[]⟩ w (Nat.le_refl _) (by omega) hc).mono fun e w' ⟨he, hw⟩ => ⟨?_, hw.symm⟩
    rw [he, List.take_length]
    congr 2
    rw [Bool.eq_iff_iff, Lib.containsS_iff, List.any_eq_true]
    constructor
    · exact fun h => ⟨_, h, rfl⟩
    · rintro ⟨x, hx, hz⟩
      have : x = ⟨#[]⟩ := by
        have hz := of_decide_eq_true hz
        exact ByteArray.ext (Array.eq_empty_of_size_eq_zero hz)
      exact this ▸ hx
def ccX (path : List ByteArray) (id : ByteArray) (upd : Int) : Nat := if (decide (id.size = 0) || path.any fun s => decide (s.size = 0)) = true then 19 else if 64 < path.length then 9 else if inTB upd = true then 0 else 3
set_option maxRecDepth 100000 in
set_option maxHeartbeats 8000000 in
theorem nz_checkCollapsed (path : List ByteArray) (p : Option Addr) (c : Nat) (id title link : ByteArray) (upd : Int) (q : Option Addr) (m d : Nat) (w : World) (hl : NamAt w p path) (hn : path.length ≤ 1000000) :
    Calls Tryz.prog 36 #[.agg #[.slice p path.length c, .string id, .string title, .string link, .int .i64 upd, .slice q m d]] w fun e w' => e = .returned (.int .i64 (ccX path id upd)) ∧ Below w.heap.size w w' := by
  obtain ⟨W2, hW2⟩ : ∃ W2, W2 = w.alloc (.cells #[.slice p path.length c, .string id, .string title, .string link, .int .i64 upd, .slice q m d] 35) := ⟨_, rfl⟩
  have hB : Below w.heap.size w W2 := by rw [hW2]; exact (Below.refl _ _).alloc (Nat.le_refl _) _
  have h0 := heap_alloc_new w (.cells #[.slice p path.length c, .string id, .string title, .string link, .int .i64 upd, .slice q m d] 35)
  have e0 : W2.cell? ⟨w.heap.size, 0, none⟩ = some (.slice p path.length c) := by rw [hW2]; exact cell_of_row _ _ 0 _ _ _ h0
  have e1 : W2.cell? ⟨w.heap.size, 1, none⟩ = some (.string id) := by rw [hW2]; exact cell_of_row _ _ 1 _ _ _ h0
  have e4 : W2.cell? ⟨w.heap.size, 4, none⟩ = some (.int .i64 upd) := by rw [hW2]; exact cell_of_row _ _ 4 _ _ _ h0
  have cC := nz_contains path p c W2 (hl.below hB) hn
  have cR := fun wx => nz_inRange upd wx
  have hnz : (path.length : Int) ≤ 1000000 := by omega
  have hX : ccX path id upd = if (decide (id.size = 0) || path.any fun s => decide (s.size = 0)) = true then 19 else if 64 < path.length then 9 else if inTB upd = true then 0 else 3 := rfl
  obtain ⟨R, hR⟩ : ∃ R, ccX path id upd = R := ⟨_, rfl⟩
  rw [hR] at hX ⊢
  generalize (path.any fun s => decide (s.size = 0)) = b at cC hX
  have HB := Lib.hid hB
  clear hl h0 hB hR
  by_cases hi : id.size = 0
  · obtain ⟨y0, y1, y2⟩ := mstr_none hi
    rw [decide_eq_true hi, Bool.true_or, if_pos rfl] at hX
    have HX := Lib.hid hX
    clear hi hX cC cR
    go_enter Tryz.func36, Tryz.ntmps36
    go_upto_region 1 with fail
    simp only [← hW2]
    clear hW2
    go_wp2
    go_ret
    exact ⟨by rw [HX.out]; rfl, HB.out⟩
  · obtain ⟨y0, y1, y2⟩ := mstr_some hi
    rw [decide_eq_false hi, Bool.false_or] at hX
    clear hi
    cases b with
    | true =>
      rw [if_pos rfl] at hX
      have HX := Lib.hid hX
      clear hX cR
      go_enter Tryz.func36, Tryz.ntmps36
      go_upto_region 1 with fail
      simp only [← hW2]
      clear hW2
      go_wp2_with (first | (go_at_call 52; refine cC.mono ?_; rintro e w2 ⟨rfl, rfl⟩))
      go_ret
      exact ⟨by rw [HX.out]; rfl, HB.out⟩
    | false =>
      rw [if_neg (by simp)] at hX
      by_cases hp : 64 < path.length
      · have hpz : (64 : Int) < (path.length : Int) := by omega
        rw [if_pos hp] at hX
        have HX := Lib.hid hX
        clear hX cR hp
        go_enter Tryz.func36, Tryz.ntmps36
        go_upto_region 1 with fail
        simp only [← hW2]
        clear hW2
        go_wp2_with (first | (go_at_call 52; refine cC.mono ?_; rintro e w2 ⟨rfl, rfl⟩))
        go_ret
        exact ⟨by rw [HX.out]; rfl, HB.out⟩
      · have hpz : ¬ (64 : Int) < (path.length : Int) := by omega
        rw [if_neg hp] at hX
        clear hp
        by_cases ht : inTB upd = true
        · rw [if_pos ht] at hX
          rw [ht] at cR
          have HX := Lib.hid hX
          clear hX ht
          go_enter Tryz.func36, Tryz.ntmps36
          go_upto_region 1 with fail
          simp only [← hW2]
          clear hW2
          go_wp2_with (first | (go_at_call 52; refine cC.mono ?_; rintro e w2 ⟨rfl, rfl⟩) | (go_at_call 28; refine (cR _).mono ?_; rintro e w3 ⟨rfl, rfl⟩))
          go_ret
          exact ⟨by rw [HX.out]; rfl, HB.out⟩
        · rw [if_neg ht] at hX
          rw [Bool.eq_false_iff.2 ht] at cR
          have HX := Lib.hid hX
          clear hX ht
          go_enter Tryz.func36, Tryz.ntmps36
          go_upto_region 1 with fail
          simp only [← hW2]
          clear hW2
          go_wp2_with (first | (go_at_call 52; refine cC.mono ?_; rintro e w2 ⟨rfl, rfl⟩) | (go_at_call 28; refine (cR _).mono ?_; rintro e w3 ⟨rfl, rfl⟩))
          go_ret
          exact ⟨by rw [HX.out]; rfl, HB.out⟩
end Go.Proofs.YtbfalppeifkjdaaGreatDoor
end
