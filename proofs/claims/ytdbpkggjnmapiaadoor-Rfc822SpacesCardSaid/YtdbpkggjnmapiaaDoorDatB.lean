/- Package rfc3339: groups: the numbers of groups of digits, in memory of the call's own, and whether the string has the form. -/
import Derived.Test.YtdbpkggjnmapiaaDoorDatA
namespace Go.Proofs.YtdbpkggjnmapiaaDoor
open Go.RowKit

/-- What is left of the string behind the separator. -/
def behind (k : Nat) (r : List Int) : List Int := r.drop (if k == 0 then 0 else 1)
/-- What the loop of groups holds at the head of round k: the numbers ns have been read, r is left. -/
def GRel (sep : Int) (ws : List Nat) (l ns : List Int) (k : Nat) (r : List Int) : Prop :=
  ns.length = k ∧ grp sep true ws l = (ns ++ (grp sep (k == 0) (ws.drop k) r).1, (grp sep (k == 0) (ws.drop k) r).2)
theorem GRel.start (sep : Int) (ws : List Nat) (l : List Int) : GRel sep ws l [] 0 l := ⟨rfl, rfl⟩
theorem GRel.done {sep : Int} {ws : List Nat} {l ns : List Int} {k : Nat} {r : List Int} (h : GRel sep ws l ns k r) (hk : ws.length ≤ k) : grp sep true ws l = (ns, r.isEmpty) := by
  rw [h.2, List.drop_eq_nil_of_le hk]; simp [grp]
theorem GRel.open {sep : Int} {ws : List Nat} {l ns : List Int} {k : Nat} {r : List Int} (h : GRel sep ws l ns k r) (hk : k < ws.length) {x : Nat} (hx : ws.getD k 0 = x) :
    grp sep true ws l = (ns ++ (grp sep (k == 0) (x :: ws.drop (k + 1)) r).1, (grp sep (k == 0) (x :: ws.drop (k + 1)) r).2) := by
  rw [h.2, List.drop_eq_getElem_cons hk]
  have : ws[k] = x := by rw [← hx]; simp [List.getD, hk]
  rw [this]
theorem GRel.sepNo {sep : Int} {ws : List Nat} {l ns : List Int} {k : Nat} {r : List Int} (h : GRel sep ws l ns k r) (hk : k < ws.length) (h0 : 0 < k) (hc : ch r 0 ≠ sep) : (grp sep true ws l).2 = false := by
  rw [h.open hk rfl, grp, show (k == 0) = false from beq_eq_false_iff_ne.2 (by omega)]
  simp [hc]
theorem grp_open {sep : Int} {k x : Nat} {ws : List Nat} {r : List Int} (hc : k = 0 ∨ ch r 0 = sep) : grp sep (k == 0) (x :: ws) r =
    (if (behind k r).length < x then ([], false) else if (numV ((behind k r).take x)).2 then ((numV ((behind k r).take x)).1 :: (grp sep false ws ((behind k r).drop x)).1, (grp sep false ws ((behind k r).drop x)).2) else ([], false)) := by
  rw [grp, if_pos (by rcases hc with rfl | hc <;> simp [*])]
  rfl
theorem GRel.short {sep : Int} {ws : List Nat} {l ns : List Int} {k : Nat} {r : List Int} (h : GRel sep ws l ns k r) (hk : k < ws.length) (hc : k = 0 ∨ ch r 0 = sep) {x : Nat} (hx : ws.getD k 0 = x) (hs : (behind k r).length < x) : (grp sep true ws l).2 = false := by
  rw [h.open hk hx, grp_open hc, if_pos hs]
theorem GRel.noNum {sep : Int} {ws : List Nat} {l ns : List Int} {k : Nat} {r : List Int} (h : GRel sep ws l ns k r) (hk : k < ws.length) (hc : k = 0 ∨ ch r 0 = sep) {x : Nat} (hx : ws.getD k 0 = x) (hs : x ≤ (behind k r).length) (hn : (numV ((behind k r).take x)).2 = false) : (grp sep true ws l).2 = false := by
  rw [h.open hk hx, grp_open hc, if_neg (by omega), hn]; rfl
theorem GRel.next {sep : Int} {ws : List Nat} {l ns : List Int} {k : Nat} {r : List Int} (h : GRel sep ws l ns k r) (hk : k < ws.length) (hc : k = 0 ∨ ch r 0 = sep) {x : Nat} (hx : ws.getD k 0 = x) (hs : x ≤ (behind k r).length) (hn : (numV ((behind k r).take x)).2 = true) :
    GRel sep ws l (ns ++ [(numV ((behind k r).take x)).1]) (k + 1) ((behind k r).drop x) := by
  refine ⟨by rw [List.length_append, h.1]; rfl, ?_⟩
  rw [h.open hk hx, grp_open hc, if_neg (by omega), hn, show (k + 1 == 0) = false from rfl]
  simp
def ints (l : List Int) : List Value := l.map (Value.int .i64)
theorem own_push_int {w : World} {base : Nat} {e : TypeId} {v' : Value} {acc : List Int} {x : Int} (h : w.ownsRow base e 1 v' (acc.length + 1) (ints acc ++ [.int .i64 x])) :
    ∃ A c, v' = .slice A (acc ++ [x]).length c ∧ w.ownsRow base e 1 (.slice A (acc ++ [x]).length c) (acc ++ [x]).length (ints (acc ++ [x])) := by
  obtain ⟨A, c, rfl⟩ := own_form h
  refine ⟨A, c, by simp, ?_⟩
  rw [show ints (acc ++ [x]) = ints acc ++ [.int .i64 x] by simp [ints], List.length_append]
  exact h
theorem dinfo_int : (Tryd.prog.info? 3).map (fun i => (i.zero, i.size, i.bytes)) = some (some (.int .i64 0), 1, 8) := by kernel_rfl
theorem zs_empty (s : ByteArray) (h : s.size = 0) : s = ⟨#[]⟩ := by
  apply str_ext
  have : s.data.toList.length = 0 := by simpa using h
  exact List.eq_nil_of_length_eq_zero this
theorem zs_isEmpty (s : ByteArray) : s.toList.isEmpty = (zs s).isEmpty := by
  rw [ByteArray.toList_eq]; unfold zs; rw [List.isEmpty_map]
theorem not_isEmpty (s : ByteArray) (h : 0 < s.size) : s.toList.isEmpty = false := by
  have := zs_length s
  rw [zs_isEmpty]
  cases hz : zs s with
  | nil => rw [hz] at this; simp at this; omega
  | cons _ _ => rfl
theorem ret_vb {v : Value} {b b' : Bool} (h : b = b') : Ending.returned (.tuple #[v, .bool b]) = .returned (.tuple #[v, .bool b']) := by rw [h]

set_option maxHeartbeats 4000000 in
theorem dat_groups (s : ByteArray) (sep : Int) (ws : List Nat) (b : Nat) (w : World) (hb : b < w.heap.size) (hsep : 0 ≤ sep ∧ sep < 256) (hws : ∀ k, k < ws.length → 1 ≤ ws.getD k 0 ∧ ws.getD k 0 ≤ 4) (hl : ws.length ≤ 3)
    (hc : ∀ j, j < ws.length → w.cell? ⟨b, j, none⟩ = some (.int .i64 (ws.getD j 0))) :
    Calls Tryd.prog 57 #[.string s, .int .u8 sep, .slice (some ⟨b, 0, none⟩) ws.length ws.length] w fun e w' =>
      (∃ v, e = .returned (.tuple #[v, .bool (grp sep true ws (zs s)).2]) ∧ ((grp sep true ws (zs s)).2 = true → w'.ownsRow w.heap.size 3 1 v (grp sep true ws (zs s)).1.length (ints (grp sep true ws (zs s)).1))) ∧ Below w.heap.size w w' := by
  obtain ⟨i0, hi, hz0, hz1, hz2⟩ := info_parts dinfo_int
  go_enter Tryd.func57, Tryd.ntmps57
  go_wp2
  go_loopw [0, 8, 15] (fun q v i wr => ∃ (k : Nat) (r : ByteArray) (ns : List Int) (A : Option Addr) (c : Nat), k ≤ ws.length ∧ i = .int .i64 k ∧ q = .string r ∧ r.size ≤ s.size ∧ v = .slice A ns.length c ∧ wr.ownsRow w.heap.size 3 1 (.slice A ns.length c) ns.length (ints ns) ∧ GRel sep ws (zs s) ns k (zs r) ∧ Below w.heap.size w wr) (fun _ _ i _ => ws.length - (intOf i).toNat)
  case atStart => exact ⟨0, s, [], none, 0, by omega, rfl, rfl, Nat.le_refl _, rfl, World.ownsRow_nil _ _ _ _, GRel.start _ _ _, Below.refl _ _⟩
  case round =>
    obtain ⟨k, r, ns, A, c, hk, rfl, rfl, hrs, rfl, hown, hrel, hbel⟩ := hrel
    have hz := hbel.size
    have hnb : ns.length ≤ 3 := by have := hrel.1; omega
    by_cases hlt : k < ws.length
    · have hcx : wr.cell? ⟨b, k, none⟩ = some (.int .i64 (ws.getD k 0)) := (hbel.cell (by exact hb)).trans (hc k hlt)
      obtain ⟨hx1, hx4⟩ := hws k hlt
      obtain ⟨x, hx⟩ : ∃ x, ws.getD k 0 = x := ⟨_, rfl⟩
      rw [hx] at hcx hx1 hx4
      clear hc hws
      rcases Nat.eq_zero_or_pos k with rfl | hk0
      · obtain ⟨m, hmr⟩ : ∃ m, m = r := ⟨_, rfl⟩
        have hm : zs m = behind 0 (zs r) := by rw [hmr]; rfl
        have hms : m.size ≤ s.size := by rw [hmr]; exact hrs
        have hcs : (0 : Nat) = 0 ∨ ch (zs r) 0 = sep := .inl rfl
        rw [← hmr]
        clear hmr
        rcases Nat.lt_or_ge m.size x with hlx | hlx
        · have HG := Lib.hid (hrel.short hlt hcs hx (by rw [← hm, zs_length]; exact hlx))
          have hlz : (m.size : Int) < (x : Int) := by omega
          clear hrel hm hcs hx
          go_wp2
          go_ret2
          exact ⟨⟨_, ret_vb HG.out.symm, fun h => absurd h (by rw [HG.out]; simp)⟩, hbel⟩
        · have hlz : ¬ (m.size : Int) < (x : Int) := by omega
          obtain ⟨p, hp⟩ : ∃ p, p = m.extract 0 x := ⟨_, rfl⟩
          obtain ⟨q, hq⟩ : ∃ q, q = m.extract x m.size := ⟨_, rfl⟩
          have hpz : zs p = (behind 0 (zs r)).take x := by rw [hp, zs_extract, hm]; simp
          have hqz : zs q = (behind 0 (zs r)).drop x := by rw [hq, zs_extract, hm]; exact List.take_of_length_le (by rw [← hm]; simp [zs_length])
          have hps : p.size ≤ 4 := by have := congrArg List.length hpz; rw [zs_length, List.length_take] at this; omega
          have hqs : q.size ≤ s.size := by have := congrArg List.length hqz; rw [zs_length, List.length_drop, ← hm, zs_length] at this; omega
          have s1 : ∀ wx, _ := fun wx => slice_to m (x : Int) (by omega) (by omega) wx
          have s2 : ∀ wx, _ := fun wx => slice_from m (x : Int) (by omega) (by omega) wx
          rw [Int.toNat_natCast, ← hp] at s1
          rw [Int.toNat_natCast, ← hq] at s2
          have cN : ∀ wx, _ := fun wx => dat_number p wx hps
          clear hp hq
          have hlm : x ≤ (behind 0 (zs r)).length := by rw [← hm, zs_length]; exact hlx
          rcases hn : (numV (zs p)).2 with _ | _
          · have HG := Lib.hid (hrel.noNum hlt hcs hx hlm (by rw [← hpz]; exact hn))
            rw [hn] at cN
            generalize (numV (zs p)).1 = n1 at *
            clear hrel hm hcs hx hlm hn hpz hqz
            (go_wp2_with fail); (refine (cN _).mono ?_); (rintro e w' ⟨rfl, rfl⟩)
            go_wp2
            go_ret2
            exact ⟨⟨_, ret_vb HG.out.symm, fun h => absurd h (by rw [HG.out]; simp)⟩, hbel⟩
          · have R := hrel.next hlt hcs hx hlm (by rw [← hpz]; exact hn)
            rw [← hpz, ← hqz] at R
            rw [hn] at cN
            generalize (numV (zs p)).1 = n1 at *
            have HR := Lib.hid R
            clear hrel hm hcs hx hlm hn hpz hqz R
            (go_wp2_with fail); (refine (cN _).mono ?_); (rintro e w' ⟨rfl, rfl⟩)
            go_wp2_with (at_builtin; refine wpList_append_own _ rfl (.tmp 45) (.tmp 47) 82 rfl w.heap.size 3 i0 (.int .i64 0) 1 8 Tryd.underlying82 hi hz0 hz1 hz2 rfl (by decide) (.slice A ns.length c) ns.length (ints ns) rfl (hown.alloc _) ⟨wr.heap.size, 0, none⟩ 1 1 [.int .i64 n1] rfl rfl (cell_one_new _ _ _) (by intro u hu; simp at hu; subst hu; rfl) (by unfold maxLen; omega) (by omega) (by simp; omega) ?_; intro v' w2 hown' hgr' _)
            obtain ⟨A', c', hv', hown2⟩ := own_push_int hown'
            have hb2 : Below w.heap.size w w2 := (hbel.alloc hz _).grown hgr' (by simp; omega) (fun g hg => (hown.lt g hg).1)
            go_roundw
            case rel => exact ⟨0 + 1, _, _, A', c', by omega, by go_num, rfl, hqs, hv', hown2, HR.out, hb2⟩
            case measure => simp [intOf]; omega
      · have hkz : (0 : Int) < (k : Int) := by omega
        rcases Nat.eq_zero_or_pos r.size with h0 | h0
        · obtain rfl := zs_empty r h0
          have HG := Lib.hid (hrel.sepNo hlt hk0 (by show (-1 : Int) ≠ sep; omega))
          clear hrel h0 hrs
          go_wp2
          go_ret2
          exact ⟨⟨_, ret_vb HG.out.symm, fun h => absurd h (by rw [HG.out]; simp)⟩, hbel⟩
        · have he := not_isEmpty r h0
          obtain ⟨y, hy⟩ : ∃ y, r[0]'h0 = y := ⟨_, rfl⟩
          have hch := ch_at r 0 h0
          rw [hy] at hch
          generalize hyc : (y.toNat : Int) = c0 at *
          by_cases hcc : c0 = sep
          · subst hcc
            obtain ⟨m, hmr⟩ : ∃ m, m = r.extract 1 r.size := ⟨_, rfl⟩
            have hm : zs m = behind k (zs r) := by rw [hmr, zs_extract, behind, show (k == 0) = false from beq_eq_false_iff_ne.2 (by omega)]; exact List.take_of_length_le (by simp [zs_length])
            have hms : m.size ≤ s.size := by have := congrArg List.length hm; rw [zs_length, behind, List.length_drop, zs_length] at this; omega
            have hcs : k = 0 ∨ ch (zs r) 0 = c0 := .inr hch
            have hsl : ∀ wx, _ := fun wx => slice_from r 1 (by omega) (by omega) wx
            rw [show (1 : Int).toNat = 1 from rfl, ← hmr] at hsl
            clear hmr hch
            rcases Nat.lt_or_ge m.size x with hlx | hlx
            · have HG := Lib.hid (hrel.short hlt hcs hx (by rw [← hm, zs_length]; exact hlx))
              have hlz : (m.size : Int) < (x : Int) := by omega
              clear hrel hm hcs hx
              go_wp2
              go_ret2
              exact ⟨⟨_, ret_vb HG.out.symm, fun h => absurd h (by rw [HG.out]; simp)⟩, hbel⟩
            · have hlz : ¬ (m.size : Int) < (x : Int) := by omega
              obtain ⟨p, hp⟩ : ∃ p, p = m.extract 0 x := ⟨_, rfl⟩
              obtain ⟨q, hq⟩ : ∃ q, q = m.extract x m.size := ⟨_, rfl⟩
              have hpz : zs p = (behind k (zs r)).take x := by rw [hp, zs_extract, hm]; simp
              have hqz : zs q = (behind k (zs r)).drop x := by rw [hq, zs_extract, hm]; exact List.take_of_length_le (by rw [← hm]; simp [zs_length])
              have hps : p.size ≤ 4 := by have := congrArg List.length hpz; rw [zs_length, List.length_take] at this; omega
              have hqs : q.size ≤ s.size := by have := congrArg List.length hqz; rw [zs_length, List.length_drop, ← hm, zs_length] at this; omega
              have s1 : ∀ wx, _ := fun wx => slice_to m (x : Int) (by omega) (by omega) wx
              have s2 : ∀ wx, _ := fun wx => slice_from m (x : Int) (by omega) (by omega) wx
              rw [Int.toNat_natCast, ← hp] at s1
              rw [Int.toNat_natCast, ← hq] at s2
              have cN : ∀ wx, _ := fun wx => dat_number p wx hps
              clear hp hq
              have hlm : x ≤ (behind k (zs r)).length := by rw [← hm, zs_length]; exact hlx
              rcases hn : (numV (zs p)).2 with _ | _
              · have HG := Lib.hid (hrel.noNum hlt hcs hx hlm (by rw [← hpz]; exact hn))
                rw [hn] at cN
                generalize (numV (zs p)).1 = n1 at *
                clear hrel hm hcs hx hlm hn hpz hqz
                (go_wp2_with fail); (refine (cN _).mono ?_); (rintro e w' ⟨rfl, rfl⟩)
                go_wp2
                go_ret2
                exact ⟨⟨_, ret_vb HG.out.symm, fun h => absurd h (by rw [HG.out]; simp)⟩, hbel⟩
              · have R := hrel.next hlt hcs hx hlm (by rw [← hpz]; exact hn)
                rw [← hpz, ← hqz] at R
                rw [hn] at cN
                generalize (numV (zs p)).1 = n1 at *
                have HR := Lib.hid R
                clear hrel hm hcs hx hlm hn hpz hqz R
                (go_wp2_with fail); (refine (cN _).mono ?_); (rintro e w' ⟨rfl, rfl⟩)
                go_wp2_with (at_builtin; refine wpList_append_own _ rfl (.tmp 45) (.tmp 47) 82 rfl w.heap.size 3 i0 (.int .i64 0) 1 8 Tryd.underlying82 hi hz0 hz1 hz2 rfl (by decide) (.slice A ns.length c) ns.length (ints ns) rfl (hown.alloc _) ⟨wr.heap.size, 0, none⟩ 1 1 [.int .i64 n1] rfl rfl (cell_one_new _ _ _) (by intro u hu; simp at hu; subst hu; rfl) (by unfold maxLen; omega) (by omega) (by simp; omega) ?_; intro v' w2 hown' hgr' _)
                obtain ⟨A', c', hv', hown2⟩ := own_push_int hown'
                have hb2 : Below w.heap.size w w2 := (hbel.alloc hz _).grown hgr' (by simp; omega) (fun g hg => (hown.lt g hg).1)
                go_roundw
                case rel => exact ⟨k + 1, _, _, A', c', by omega, by go_num, rfl, hqs, hv', hown2, HR.out, hb2⟩
                case measure => simp [intOf]; omega
          · have HG := Lib.hid (hrel.sepNo hlt hk0 (by rw [hch]; exact hcc))
            have hne : (c0 != sep) = true := by simp [hcc]
            clear hrel hch hrs hcc hx hb hx1 hx4
            go_wp2
            go_ret2
            exact ⟨⟨_, ret_vb HG.out.symm, fun h => absurd h (by rw [HG.out]; simp)⟩, hbel⟩
    · obtain rfl : k = ws.length := by omega
      have HD := Lib.hid (hrel.done (Nat.le_refl _))
      have HE := Lib.hid (zs_isEmpty r)
      clear hrel hc hws
      go_wp2
      go_ret2
      exact ⟨⟨_, ret_vb (by rw [HD.out]; exact HE.out), fun _ => by rw [HD.out]; exact hown⟩, hbel⟩
end Go.Proofs.YtdbpkggjnmapiaaDoor
