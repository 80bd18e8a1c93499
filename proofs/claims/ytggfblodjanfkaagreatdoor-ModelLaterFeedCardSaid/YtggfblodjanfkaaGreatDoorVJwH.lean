/- Packed from the texts JwH. -/
import Derived.Test.YtggfblodjanfkaaGreatDoorVkA
import Derived.Test.YtggfblodjanfkaaGreatDoorVkJ
import Derived.Lib.FrozenHead2
import Derived.Deep.AppendLies
import Derived.Shelf.Strings.BuilderK
import Derived.KernelRfl
section
namespace Go.Proofs.YtggfblodjanfkaaGreatDoor
open Go.RowKit
theorem wj_rowF {w w' : World} {B : Nat} {e : TypeId} {k n : Nat} {v : Value} {xs : List Value} (h : w.ownsRowF B e k v n xs) (hs : ∀ g, v.ownBlock = some g → w'.heap[g]? = w.heap[g]?) : w'.ownsRowF B e k v n xs := by
  refine ⟨h.1, ?_⟩
  rcases h.2 with hn | ⟨g, cap, cur, fz, rfl, hb, hg, rest⟩
  · exact .inl hn
  · exact .inr ⟨g, cap, cur, fz, rfl, hb, (hs g rfl).trans hg, rest⟩
theorem wj_kind {w : World} {B : Nat} {e : TypeId} {k n : Nat} {v : Value} {xs : List Value} (h : w.ownsRowF B e k v n xs) : ∀ g, v.ownBlock = some g → B ≤ g ∧ g < w.heap.size ∧ ∃ cs fz, w.heap[g]? = some (.cells cs e fz) := by
  intro g hg
  rcases h.2 with ⟨rfl, _⟩ | ⟨g', cap, cur, fz, rfl, hb, hh, _⟩
  · cases hg
  · simp only [Value.ownBlock, Option.some.injEq] at hg
    subst hg
    exact ⟨hb, (Array.getElem?_eq_some_iff.1 hh).1, _, _, hh⟩
theorem wj_base {w : World} {B B' : Nat} {e : TypeId} {k n : Nat} {v : Value} {xs : List Value} (h : w.ownsRowF B' e k v n xs) (hb : B ≤ B') : w.ownsRowF B e k v n xs := by
  refine ⟨h.1, ?_⟩
  rcases h.2 with hn | ⟨g, cap, cur, fz, rfl, hB, rest⟩
  · exact .inl hn
  · exact .inr ⟨g, cap, cur, fz, rfl, by omega, rest⟩
theorem wj_val {w : World} {B : Nat} {e : TypeId} {n : Nat} {v : Value} {xs : List Value} (h : w.ownsRowF B e 1 v n xs) : ∃ a c, v = .slice a n c := by
  rcases h.2 with ⟨rfl, rfl⟩ | ⟨g, cap, cur, fz, rfl, _⟩
  · exact ⟨_, _, rfl⟩
  · exact ⟨_, _, rfl⟩
theorem wj_append_str {P : Program} (w : World) (base : Nat) (t u ty e : TypeId) (i : TypeInfo) (ht : P.underlying t = some (.slice e)) (hu : P.underlying u = some .string) (hi : P.info? e = some i) (hz : i.zero = some (.int .u8 0)) (hsize : i.size = 1) (hby : i.bytes = 1)
    (v : Value) (n : Nat) (xs : List Value) (hown : w.ownsRowF base e 1 v n xs) (s : ByteArray) (hbytes : n + s.size ≤ 140737488355328) (hbase : base ≤ w.heap.size) :
    ∃ v' w', (Builtin.append_ #[t, u] ty #[v, .string s]).run P w = .ok v' w' ∧ w'.ownsRowF base e 1 v' (n + s.size) (xs ++ Lib.strCells s) ∧ w.grownBy w' v.ownBlock ∧ ∀ k, v'.ownBlock = some k → v.ownBlock = some k ∨ w.heap.size ≤ k := by
  have h63 : n + s.size ≤ maxLen := by unfold maxLen; omega
  rcases hown.2 with ⟨rfl, rfl⟩ | ⟨g, cap, cur, fz, rfl, hbg, hg, hfz, hnc, hcm, hcs, htake⟩
  · obtain ⟨v', w', h1, h2, h3, _⟩ := Lib.run_append_own_stringF (P := P) w w.heap.size t u ty e i ht hu hi hz hsize hby (.slice none 0 0) 0 xs ⟨hown.1, .inl ⟨rfl, rfl⟩⟩ s h63 hbytes (Nat.le_refl _)
    exact ⟨v', w', h1, wj_base h2 hbase, h3, fun k hk => .inr (wj_kind h2 k hk).1⟩
  · obtain ⟨v', w', h1, h2, h3, _⟩ := Lib.run_append_own_stringF (P := P) w base t u ty e i ht hu hi hz hsize hby _ n xs hown s h63 hbytes hbase
    refine ⟨v', w', h1, h2, h3, fun k hk => ?_⟩
    by_cases hroom : n + s.size ≤ cap
    · have hr := Lib.run_append_room_stringF (P := P) w t u ty e i ht hu hi hsize g n cap cur fz hg (by simpa using hfz) s hroom (by simp at hcs; omega)
      rw [h1] at hr
      injection hr with hr _
      rw [hr] at hk
      exact .inl hk
    · have hxl : xs.length = n := by simpa using hown.1
      have hr := Lib.run_append_grow_string (P := P) w t u ty e i (.int .u8 0) ht hu hi hz ⟨g, 0, none⟩ n cap xs (by rw [hsize]; simpa using hxl) (hown.cells (g := g) rfl) s (by omega) (by unfold maxLen at h63; omega) (by rw [hby]; exact growslice_fits (by omega) (by omega))
      rw [h1] at hr
      injection hr with hr _
      rw [hr] at hk
      simp only [Value.ownBlock, Option.some.injEq] at hk
      exact .inr (by omega)
theorem wpList_wj_str {P : Program} (w : World) {ops : Array Oper} {rest : List Oper} {o : Oper} {a : Act} {Q : Exit → Act → World → Prop} (hgd : o.guard = none) (sl x : Operand) (t u : TypeId)
    (ho : o.op = .call { callee := .builtin .append, args := #[sl, x], argTypes := #[t, u] })
    (base : Nat) (e : TypeId) (i : TypeInfo) (ht : P.underlying t = some (.slice e)) (hu : P.underlying u = some .string) (hi : P.info? e = some i) (hz : i.zero = some (.int .u8 0)) (hsize : i.size = 1) (hby : i.bytes = 1)
    (v : Value) (n : Nat) (xs : List Value) (hs : a.eval sl = v) (hown : w.ownsRowF base e 1 v n xs) (s : ByteArray) (hx : a.eval x = .string s) (hbytes : n + s.size ≤ 140737488355328) (hbase : base ≤ w.heap.size)
    (h : ∀ v' w', w'.ownsRowF base e 1 v' (n + s.size) (xs ++ Lib.strCells s) → w.grownBy w' v.ownBlock → (∀ k, v'.ownBlock = some k → v.ownBlock = some k ∨ w.heap.size ≤ k) → wpList P ops Q rest (a.put o.dst v') w') : wpList P ops Q (o :: rest) a w := by
  refine wpList_plain hgd fun K hK => ?_
  obtain ⟨v', w', hr, h2, h3, h4⟩ := wj_append_str (P := P) w base t u o.type e i ht hu hi hz hsize hby v n xs hown s hbytes hbase
  unfold Oper.wp execOp
  simp only [ho, resolve, invoke, builtin, Sem.run_bind, Sem.run_pure, Result.andThen_ok, List.map_toArray, List.map_cons, List.map_nil, hs, hx, hr]
  exact hK _ _ (h v' w' h2 h3 h4)
theorem wj_append_row {P : Program} (w : World) (base : Nat) (t ty e : TypeId) (i : TypeInfo) (ht : P.underlying t = some (.slice e)) (hi : P.info? e = some i) (hz : i.zero = some (.int .u8 0)) (hsize : i.size = 1) (hby : i.bytes = 1)
    (v : Value) (n : Nat) (xs : List Value) (hown : w.ownsRowF base e 1 v n xs) (ad : Addr) (m c : Nat) (news : List Value) (hl : news.length = m * 1) (hnews : ∀ j u, news[j]? = some u → w.cell? (ad.add j) = some u) (h1 : ∀ u ∈ news, u.oneCell' = true) (hbytes : n + m ≤ 140737488355328) (hbase : base ≤ w.heap.size) :
    ∃ v' w', (Builtin.append_ #[t, t] ty #[v, .slice (some ad) m c]).run P w = .ok v' w' ∧ w'.ownsRowF base e 1 v' (n + m) (xs ++ news) ∧ w.grownBy w' v.ownBlock ∧ ∀ k, v'.ownBlock = some k → v.ownBlock = some k ∨ w.heap.size ≤ k := by
  have h63 : n + m ≤ maxLen := by unfold maxLen; omega
  rcases hown.2 with ⟨rfl, rfl⟩ | ⟨g, cap, cur, fz, rfl, hbg, hg, hfz, hnc, hcm, hcs, htake⟩
  · obtain ⟨v', w', r1, r2, r3, _⟩ := run_append_ownF (P := P) w w.heap.size t ty e i (.int .u8 0) 1 1 ht hi hz hsize hby rfl (by decide) (.slice none 0 0) 0 xs ⟨hown.1, .inl ⟨rfl, rfl⟩⟩ ad m c news hl hnews h1 h63 (by omega) (Nat.le_refl _)
    exact ⟨v', w', r1, wj_base r2 hbase, r3, fun k hk => .inr (wj_kind r2 k hk).1⟩
  · obtain ⟨v', w', r1, r2, r3, _⟩ := run_append_ownF (P := P) w base t ty e i (.int .u8 0) 1 1 ht hi hz hsize hby rfl (by decide) _ n xs hown ad m c news hl hnews h1 h63 (by omega) hbase
    refine ⟨v', w', r1, r2, r3, fun k hk => ?_⟩
    by_cases hroom : n + m ≤ cap
    · have hr := run_append_roomF (P := P) w t ty e i ht hi g n cap cur fz hg (by rw [hsize]; exact hfz) ad m c news (by rw [hsize]; exact hl) hnews h1 hroom (by rw [hsize]; omega)
      rw [r1] at hr
      injection hr with hr _
      rw [hr] at hk
      exact .inl hk
    · have hr := run_append_grow (P := P) w t ty e i (.int .u8 0) ht hi hz ⟨g, 0, none⟩ n cap xs (by rw [hsize]; exact hown.1) (hown.cells (g := g) rfl) ad m c news (by rw [hsize]; exact hl) hnews (by omega) (by unfold maxLen at h63; omega) (by rw [hby]; exact growslice_fits (by omega) (by omega))
      rw [r1] at hr
      injection hr with hr _
      rw [hr] at hk
      simp only [Value.ownBlock, Option.some.injEq] at hk
      exact .inr (by omega)
theorem wpList_wj_row {P : Program} (w : World) {ops : Array Oper} {rest : List Oper} {o : Oper} {a : Act} {Q : Exit → Act → World → Prop} (hgd : o.guard = none) (sl x : Operand) (t : TypeId)
    (ho : o.op = .call { callee := .builtin .append, args := #[sl, x], argTypes := #[t, t] })
    (base : Nat) (e : TypeId) (i : TypeInfo) (ht : P.underlying t = some (.slice e)) (hi : P.info? e = some i) (hz : i.zero = some (.int .u8 0)) (hsize : i.size = 1) (hby : i.bytes = 1)
    (v : Value) (n : Nat) (xs : List Value) (hs : a.eval sl = v) (hown : w.ownsRowF base e 1 v n xs) (ad : Addr) (m c : Nat) (news : List Value) (hx : a.eval x = .slice (some ad) m c) (hl : news.length = m * 1) (hnews : ∀ j u, news[j]? = some u → w.cell? (ad.add j) = some u) (h1 : ∀ u ∈ news, u.oneCell' = true) (hbytes : n + m ≤ 140737488355328) (hbase : base ≤ w.heap.size)
    (h : ∀ v' w', w'.ownsRowF base e 1 v' (n + m) (xs ++ news) → w.grownBy w' v.ownBlock → (∀ k, v'.ownBlock = some k → v.ownBlock = some k ∨ w.heap.size ≤ k) → wpList P ops Q rest (a.put o.dst v') w') : wpList P ops Q (o :: rest) a w := by
  refine wpList_plain hgd fun K hK => ?_
  obtain ⟨v', w', hr, h2, h3, h4⟩ := wj_append_row (P := P) w base t o.type e i ht hi hz hsize hby v n xs hown ad m c news hl hnews h1 hbytes hbase
  unfold Oper.wp execOp
  simp only [ho, resolve, invoke, builtin, Sem.run_bind, Sem.run_pure, Result.andThen_ok, List.map_toArray, List.map_cons, List.map_nil, hs, hx, hr]
  exact hK _ _ (h v' w' h2 h3 h4)
structure Cg (pb : Nat) (v v' : Value) (w w' : World) : Prop where
  os : w'.os = w.os
  tape : w'.tape = w.tape
  output : w'.output = w.output
  size : w.heap.size ≤ w'.heap.size
  block : ∀ k, k < w.heap.size → k ≠ pb → v.ownBlock ≠ some k → w'.heap[k]? = w.heap[k]?
  own : ∀ k, v'.ownBlock = some k → v.ownBlock = some k ∨ w.heap.size ≤ k
theorem Cg.refl (pb : Nat) (v : Value) (w : World) : Cg pb v v w w := ⟨rfl, rfl, rfl, Nat.le_refl _, fun _ _ _ _ => rfl, fun _ h => .inl h⟩
theorem Cg.trans {pb : Nat} {v v1 v2 : Value} {w w1 w2 : World} (h : Cg pb v v1 w w1) (k : Cg pb v1 v2 w1 w2) : Cg pb v v2 w w2 :=
  ⟨k.os.trans h.os, k.tape.trans h.tape, k.output.trans h.output, Nat.le_trans h.size k.size,
   fun i hi hp ho => (k.block i (Nat.lt_of_lt_of_le hi h.size) hp (fun e => by rcases h.own i e with x | x; exact ho x; omega)).trans (h.block i hi hp ho),
   fun i hi => by
    rcases k.own i hi with x | x
    · exact h.own i x
    · have := h.size
      exact .inr (by omega)⟩
theorem Cg.of {pb : Nat} {w w' : World} (v : Value) (h : Below w.heap.size w w') : Cg pb v v w w' := ⟨h.os, h.tape, h.output, h.size, fun k hk _ _ => h.block k hk, fun _ x => .inl x⟩
theorem Cg.below {B pb : Nat} {v v' : Value} {a w w' : World} (h : Cg pb v v' w w') (hb : Below B a w) (hp : B ≤ pb) (hv : ∀ k, v.ownBlock = some k → B ≤ k) (hB : B ≤ w.heap.size) : Below B a w' :=
  hb.trans ⟨h.os, h.tape, h.output, h.size, fun k hk => h.block k (by omega) (by omega) (fun e => by have := hv k e; omega)⟩
def Wst (w : World) (pb : Nat) (l : List UInt8) (vd : Value) : Prop := ∃ p, (p = .pointer none ∨ p = .pointer (some ⟨pb, 0, none⟩)) ∧ Bj w pb #[p, vd] 95 ∧ w.ownsRowF pb 5 1 vd l.length (Lib.byteCells l)
theorem Wst.lt {w : World} {pb : Nat} {l : List UInt8} {vd : Value} (h : Wst w pb l vd) : pb < w.heap.size := by
  obtain ⟨p, _, hb, _⟩ := h
  exact hb.lt
theorem Wst.ge {w : World} {pb : Nat} {l : List UInt8} {vd : Value} (h : Wst w pb l vd) : ∀ k, vd.ownBlock = some k → pb ≤ k ∧ k < w.heap.size := by
  obtain ⟨p, _, _, hr⟩ := h
  exact fun k hk => ⟨(wj_kind hr k hk).1, (wj_kind hr k hk).2.1⟩
theorem Wst.more {w w' : World} {pb : Nat} {l : List UInt8} {vd : Value} (h : Wst w pb l vd) (k : Below w.heap.size w w') : Wst w' pb l vd := by
  obtain ⟨p, hp, hb, hr⟩ := h
  exact ⟨p, hp, hb.more k, wj_rowF hr (fun g hg => k.block g (wj_kind hr g hg).2.1)⟩
theorem Wst.new (w : World) : Wst (w.alloc (.cells #[.pointer none, .slice none 0 0] 95)) w.heap.size [] (.slice none 0 0) :=
  ⟨_, .inl rfl, Bj.new w _ _, World.ownsRowF_nil _ _ _ _⟩
theorem wj_size : (Tryz.prog.info? 93).map (·.size) = some 2 := by kernel_rfl
theorem wj_lies : liesAt Tryz.prog Tryz.prog.depth 95 (2 / Tryz.prog.cellsOf 95) 0 93 1 = true := by kernel_rfl
theorem wj_u8 : (Tryz.prog.info? 5).map (fun i => (i.zero, i.size, i.bytes)) = some (some (.int .u8 0), 1, 1) := by kernel_rfl
set_option maxRecDepth 100000 in
theorem wj_check_used (pb : Nat) (w : World) (h0 : w.cell? ⟨pb, 0, none⟩ = some (.pointer (some ⟨pb, 0, none⟩))) :
    Calls Tryz.prog 97 #[.pointer (some ⟨pb, 0, none⟩)] w fun e w' => e = .returned (.tuple #[]) ∧ w' = w := by
  obtain ⟨j, hj, _⟩ := Option.map_eq_some_iff.1 wj_size
  go_enter Tryz.func97, Tryz.ntmps97
  go_wp2
  rw [Lib.run_neq_ptr_same w _ Tryz.underlying91 hj]
  go_wp2
  go_end0
  exact ⟨rfl, rfl⟩
set_option maxRecDepth 100000 in
theorem wj_check_fresh (pb : Nat) (w : World) (h0 : w.cell? ⟨pb, 0, none⟩ = some (.pointer none)) (hsh : w.shape? pb = some (95, 2)) (hfz : w.frozen? ⟨pb, 0, none⟩ = false) :
    Calls Tryz.prog 97 #[.pointer (some ⟨pb, 0, none⟩)] w fun e w' => e = .returned (.tuple #[]) ∧ w' = w.setCell ⟨pb, 0, none⟩ (.pointer (some ⟨pb, 0, none⟩)) := by
  obtain ⟨j, hj, hjs⟩ := Option.map_eq_some_iff.1 wj_size
  go_enter Tryz.func97, Tryz.ntmps97
  go_wp2
  rw [Lib.run_to_unsafe w ⟨pb, 0, none⟩ Tryz.underlying91 Tryz.underlying136 hj (by rw [hjs]; decide) hsh (show 0 < 2 by decide)]
  simp only [Result.andThen]
  rw [Oper.upon_value]
  go_wp2
  rw [run_callFunc_extern Tryz.func103 (by kernel_rfl) (by kernel_rfl) (by kernel_rfl) (e := Extern.AbiNoEscape.same) (by kernel_rfl)]
  rw [Lib.run_noEscape]
  simp only [Result.andThen]
  rw [Oper.upon_value]
  go_wp2
  rw [Lib.run_from_unsafe w ⟨pb, 0, none⟩ Tryz.underlying136 Tryz.underlying91 hj hsh wj_lies]
  simp only [Result.andThen]
  rw [Oper.upon_value]
  go_wp2
  go_end0
  exact ⟨rfl, rfl⟩
theorem wj_check (pb : Nat) (l : List UInt8) (vd : Value) (w : World) (h : Wst w pb l vd) :
    Calls Tryz.prog 97 #[.pointer (some ⟨pb, 0, none⟩)] w fun e w' => e = .returned (.tuple #[]) ∧ (Bj w' pb #[.pointer (some ⟨pb, 0, none⟩), vd] 95 ∧ w'.ownsRowF pb 5 1 vd l.length (Lib.byteCells l)) ∧ Cg pb vd vd w w' := by
  obtain ⟨p, hp, hb, hr⟩ := h
  rcases hp with rfl | rfl
  · refine (wj_check_fresh pb w (hb.cell 0) hb.shape (hb.fr 0)).mono ?_
    rintro e w' ⟨rfl, rfl⟩
    have hne : ∀ k, k ≠ pb → (w.setCell ⟨pb, 0, none⟩ (.pointer (some ⟨pb, 0, none⟩))).heap[k]? = w.heap[k]? := fun k hk => Below.heap_setCell w ⟨pb, 0, none⟩ _ k hk
    refine ⟨rfl, ⟨hb.set 0 _, wj_rowF hr (fun g hg => hne g (fun e => ?_))⟩, ⟨rfl, rfl, rfl, by simp [World.setCell], fun k _ hk _ => hne k hk, fun _ x => .inl x⟩⟩
    obtain ⟨_, _, cs, fz, hh⟩ := wj_kind hr g hg
    rw [e, hb] at hh
    cases hh
  · refine (wj_check_used pb w (hb.cell 0)).mono ?_
    rintro e w' ⟨rfl, rfl⟩
    exact ⟨rfl, ⟨hb, hr⟩, Cg.refl pb vd w'⟩
theorem wj_put {w1 w2 : World} {pb : Nat} {p vd v' : Value} {l l' : List UInt8} {w : World} (hp : p = .pointer (some ⟨pb, 0, none⟩)) (hb1 : Bj w1 pb #[p, vd] 95) (hr1 : w1.ownsRowF pb 5 1 vd l.length (Lib.byteCells l)) (k1 : Cg pb vd vd w w1) (hgrow : w1.grownBy w2 vd.ownBlock) (hown' : w2.ownsRowF pb 5 1 v' l'.length (Lib.byteCells l')) (hat : ∀ k, v'.ownBlock = some k → vd.ownBlock = some k ∨ w1.heap.size ≤ k) : (Bj w2 pb #[p, vd] 95 ∧ Wst (w2.setCell ⟨pb, 1, none⟩ v') pb l' v') ∧ Cg pb vd v' w (w2.setCell ⟨pb, 1, none⟩ v') := by
  have hne : vd.ownBlock ≠ some pb := by
    intro e
    obtain ⟨_, _, cs, fz, hh⟩ := wj_kind hr1 pb e
    rw [hb1] at hh
    cases hh
  have hb2 : Bj w2 pb #[p, vd] 95 := (hgrow.block pb hb1.lt (fun e => hne e.symm)).trans hb1
  refine ⟨⟨hb2, p, .inr hp, hb2.set 1 v', wj_rowF hown' (fun g hg => Below.heap_setCell _ _ _ _ (fun e => ?_))⟩, ?_⟩
  · obtain ⟨_, _, cs, fz, hh⟩ := wj_kind hown' g hg
    rw [show g = pb from e, hb2] at hh
    cases hh
  · refine ⟨hgrow.os.trans k1.os, hgrow.tape.trans k1.tape, hgrow.output.trans k1.output, by have := k1.size; have := hgrow.size; simp [World.setCell]; omega, fun k hk hkp hko => ?_, fun k hk => ?_⟩
    · rw [Below.heap_setCell _ _ _ _ hkp, hgrow.block k (Nat.lt_of_lt_of_le hk k1.size) (fun e => hko e.symm)]
      exact k1.block k hk hkp hko
    · rcases hat k hk with h | h
      · exact .inl h
      · have := k1.size
        exact .inr (by omega)
theorem wj_str_cells (s : ByteArray) : Lib.strCells s = Lib.byteCells s.data.toList := Lib.strCells_eq s
set_option maxRecDepth 100000 in
set_option maxHeartbeats 2000000 in
theorem wj_WriteString (pb : Nat) (l : List UInt8) (vd : Value) (s : ByteArray) (w : World) (h : Wst w pb l vd) (hlen : l.length + s.size ≤ 140737488355328) :
    Calls Tryz.prog 81 #[.pointer (some ⟨pb, 0, none⟩), .string s] w fun e w' => e = .returned (.tuple #[.int .i64 s.size, .nilIface]) ∧ ∃ vd', Wst w' pb (l ++ s.data.toList) vd' ∧ Cg pb vd vd' w w' := by
  obtain ⟨i0, hi, hz0, hz1, hz2⟩ := info_parts wj_u8
  have cC := wj_check pb l vd w h
  clear h
  go_enter Tryz.func81, Tryz.ntmps81
  go_wp2_with fail
  refine cC.mono ?_
  rintro e w1 ⟨rfl, ⟨hb1, hr1⟩, k1⟩
  have c8 := hb1.cell 1
  have hlt1 := hb1.lt
  go_wp2_with (at_builtin; refine wpList_wj_str _ rfl _ _ 84 9 rfl pb 5 i0 Tryz.underlying84 Tryz.underlying9 hi hz0 hz1 hz2 _ _ _ rfl hr1 s rfl hlen (Nat.le_of_lt hlt1) ?_)
  intro v' w2 hown' hgrow hat
  have hown2 : w2.ownsRowF pb 5 1 v' (l ++ s.data.toList).length (Lib.byteCells (l ++ s.data.toList)) := by
    rw [List.length_append, Lib.byteCells_append, ← wj_str_cells, show s.data.toList.length = s.size by simp]
    exact hown'
  obtain ⟨⟨hb2, hW⟩, hC⟩ := wj_put rfl hb1 hr1 k1 hgrow hown2 hat
  have d9 := hb2.cell 1
  have f9 := hb2.fr 1
  obtain ⟨A', cap', rfl⟩ := wj_val hown'
  go_wp2
  go_ret2
  exact ⟨rfl, _, hW, hC⟩
set_option maxRecDepth 100000 in
set_option maxHeartbeats 2000000 in
theorem wj_WriteByte (pb : Nat) (l : List UInt8) (vd : Value) (c : UInt8) (z : Int) (hz : (c.toNat : Int) = z) (w : World) (h : Wst w pb l vd) (hlen : l.length + 1 ≤ 140737488355328) :
    Calls Tryz.prog 85 #[.pointer (some ⟨pb, 0, none⟩), .int .u8 z] w fun e w' => e = .returned .nilIface ∧ ∃ vd', Wst w' pb (l ++ [c]) vd' ∧ Cg pb vd vd' w w' := by
  obtain ⟨i0, hi, hz0, hz1, hz2⟩ := info_parts wj_u8
  have cC := wj_check pb l vd w h
  have HZ := Lib.hid hz
  clear h hz
  go_enter Tryz.func85, Tryz.ntmps85
  go_wp2_with fail
  refine cC.mono ?_
  rintro e w1 ⟨rfl, ⟨hb1, hr1⟩, k1⟩
  have c8 := hb1.cell 1
  have hlt1 := hb1.lt
  have hal : Below w1.heap.size w1 (w1.alloc (.cells #[.int .u8 z] 5)) := (Below.refl _ _).alloc (Nat.le_refl _) _
  have hzz : (w1.alloc (.cells #[.int .u8 z] 5)).heap.size = w1.heap.size + 1 := by simp
  have hnews : ∀ j u, ([.int .u8 z] : List Value)[j]? = some u → (w1.alloc (.cells #[.int .u8 z] 5)).cell? ((⟨w1.heap.size, 0, none⟩ : Addr).add j) = some u := World.news_of_block (cs := #[.int .u8 z]) (heap_alloc_new w1 _)
  have hr1a := hr1.alloc (.cells #[.int .u8 z] 5)
  go_wp2_with (at_builtin; refine wpList_wj_row _ rfl _ _ 84 rfl pb 5 i0 Tryz.underlying84 hi hz0 hz1 hz2 _ _ _ rfl hr1a ⟨w1.heap.size, 0, none⟩ 1 1 [.int .u8 z] rfl rfl hnews (by intro u hu; simp at hu; subst hu; rfl) hlen (by rw [hzz]; omega) ?_)
  intro v' w2 hown' hgrow hat
  have hown2 : w2.ownsRowF pb 5 1 v' (l ++ [c]).length (Lib.byteCells (l ++ [c])) := by
    rw [List.length_append, Lib.byteCells_append]
    unfold Lib.byteCells at hown' ⊢
    rw [List.map_singleton, HZ.out]
    exact hown'
  obtain ⟨⟨hb2, hW⟩, hC⟩ := wj_put rfl (hb1.more hal) hr1a (k1.trans (Cg.of vd hal)) hgrow hown2 (fun k hk => by rw [hzz]; exact hat k hk)
  have d9 := hb2.cell 1
  have f9 := hb2.fr 1
  obtain ⟨A', cap', rfl⟩ := wj_val hown'
  go_wp2
  go_ret
  exact ⟨rfl, _, hW, hC⟩
theorem wj_u8cells : Tryz.prog.cellsOf 5 = 1 := by kernel_rfl
theorem wj_drew_freeze (w : World) (p : Addr) (n : Nat) : w.drew.freeze p n = (w.freeze p n).drewN 1 := by
  unfold World.freeze
  split <;> rfl
set_option maxRecDepth 100000 in
set_option maxHeartbeats 2000000 in
theorem wj_String (B pb : Nat) (hB : B ≤ pb) (l : List UInt8) (vd : Value) (w : World) (h : Wst w pb l vd) (h0 : l ≠ []) :
    Calls Tryz.prog 71 #[.pointer (some ⟨pb, 0, none⟩)] w fun e w' => e = .returned (.string (ofBytes l)) ∧ Below B w w' := by
  have hl0 : l.length ≠ 0 := by simpa using h0
  obtain ⟨p, _, hb, hr⟩ := h
  obtain ⟨g, cap, cur, fz, rfl, hBg, hg, hfz, hnc, hcm, hcs, htake⟩ : ∃ g cap cur fz, vd = .slice (some ⟨g, 0, none⟩) l.length cap ∧ pb ≤ g ∧ w.heap[g]? = some (.cells cur 5 fz) ∧ fz.2 ≤ l.length * 1 ∧ l.length ≤ cap ∧ cap ≤ maxLen ∧ cur.size = cap * 1 ∧ cur.toList.take (l.length * 1) = Lib.byteCells l := by
    rcases hr.2 with ⟨rfl, hh⟩ | ⟨g', cap', cur, fz, hh, r⟩
    · exact absurd hh hl0
    · exact ⟨g', cap', cur, fz, hh, r⟩
  have hlg : g < w.heap.size := (Array.getElem?_eq_some_iff.1 hg).1
  have c1 : w.drew.cell? ⟨pb, 1, none⟩ = some (.slice (some ⟨g, 0, none⟩) l.length cap) := hb.cell 1
  have c0 : w.cell? ⟨pb, 1, none⟩ = some (.slice (some ⟨g, 0, none⟩) l.length cap) := hb.cell 1
  have hSD : (Builtin.unsafeSliceData_ #[84] 120 #[.slice (some ⟨g, 0, none⟩) l.length cap]).run Tryz.prog w.drew = .ok (.pointer (some ⟨g, 0, none⟩)) w.drew :=
    Lib.run_unsafeSliceData_row _ _ _ _ _ _ (by omega)
  have hUS : (Builtin.unsafeString_ #[120, 3] 9 #[.pointer (some ⟨g, 0, none⟩), .int .i64 l.length]).run Tryz.prog w.drew = .ok (.string ⟨l.toArray⟩) (w.drew.freeze ⟨g, 0, none⟩ l.length) := by
    refine Lib.run_unsafeString_row w.drew 120 3 9 5 Tryz.underlying120 wj_u8cells g cur.size (by have hg' : w.drew.heap[g]? = some (.cells cur 5 fz) := hg; simp [World.shape?, hg']) l h0 (by omega) (by unfold maxLen at hcm; omega) ?_
    intro j x hx
    exact hr.cells (g := g) rfl j (.int .u8 x.toNat) (by simp [Lib.byteCells, hx])
  have HBW := Lib.hid (show Below B w (w.drew.freeze ⟨g, 0, none⟩ l.length) by
    rw [wj_drew_freeze]
    exact (Lib.below_freeze (Below.refl B w) (p := ⟨g, 0, none⟩) (Nat.le_trans hB hBg) l.length).trans ⟨rfl, rfl, rfl, Nat.le_refl _, fun _ _ => rfl⟩)
  clear hr hg htake hb hcm hcs hnc hfz
  go_enter Tryz.func71, Tryz.ntmps71
  go_wp2
  go_region
  all_goals
    go_wp2
    go_ret
    exact ⟨rfl, HBW.out⟩
end Go.Proofs.YtggfblodjanfkaaGreatDoor
end
