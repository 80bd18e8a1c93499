/- Packed from the texts MdO. -/
import Derived.Test.YtggfblodjanfkaaGreatDoorVl1
import Derived.Deep.AppendLies
import Derived.Deep.AppendSrc
section
namespace Go.Proofs.YtggfblodjanfkaaGreatDoor
open Go.RowKit
def ltFB (a b : FeedD) : Bool := decide (a.upd < b.upd) || (decide (a.upd = b.upd) && Op.bytesLess (fkL a) (fkL b))
def bareF (f : FeedD) : FeedD := { f with ents := [] }
def ltF (a b : FeedD) : FeedD := bareF (if ltFB a b = true then b else a)
theorem wpList_append_zero {P : Program} (w : World) {ops : Array Oper} {rest : List Oper} {o : Oper} {a : Act} {Q : Exit → Act → World → Prop} (hgd : o.guard = none) (sl x : Operand) (t : TypeId)
    (ho : o.op = .call { callee := .builtin .append, args := #[sl, x], argTypes := #[t, t] }) (e : TypeId) (i : TypeInfo) (ht : P.underlying t = some (.slice e)) (hi : P.info? e = some i) (b sCap : Nat) (v : Value) (hS : Src P i.size t v 0 [] w)
    (hs : a.eval sl = .slice (some ⟨b, 0, none⟩) 0 sCap) (hx : a.eval x = v) (h : wpList P ops Q rest (a.put o.dst (.slice (some ⟨b, 0, none⟩) 0 sCap)) w) : wpList P ops Q (o :: rest) a w := by
  refine wpList_plain hgd fun K hK => ?_
  have hr := run_append_room_src w t t o.type e i ht hi b 0 0 sCap v 0 [] hS (Nat.zero_le _) (fun j hj => absurd hj (Nat.not_lt_zero _)) (fun j hj => absurd hj (Nat.not_lt_zero _))
  have hw : w.setCells b (0 + 0 * i.size) [] = w := rfl
  rw [hw] at hr
  unfold Oper.wp execOp
  simp only [ho, resolve, invoke, builtin, Sem.run_bind, Sem.run_pure, Result.andThen_ok, List.map_toArray, List.map_cons, List.map_nil, hs, hx, hr]
  exact hK _ _ h
theorem mstr_info : (Tryz.prog.info? 9).map (fun i => (i.zero, i.size, i.bytes)) = some (some (.string ⟨#[]⟩), 1, 16) := by kernel_rfl
theorem nam_news {w : World} {ad : Addr} {l : List ByteArray} (h : NamAt w (some ad) l) : ∀ j u, (l.map Value.string)[j]? = some u → w.cell? (ad.add j) = some u := by
  intro j u hj
  have hlt : j < l.length := by have := (List.getElem?_eq_some_iff.1 hj).1; simpa using this
  obtain ⟨a, ha, hc⟩ := h j hlt
  cases ha
  rw [List.getElem?_map, List.getElem?_eq_getElem hlt] at hj
  injection hj with hj
  rw [← hj]
  exact hc
theorem nam_own {w : World} {B : Nat} {T : TypeId} {g n cap : Nat} {l : List ByteArray} (h : w.ownsRow B T 1 (.slice (some ⟨g, 0, none⟩) n cap) n (l.map Value.string)) : NamAt w (some ⟨g, 0, none⟩) l := fun i hi => by
  refine ⟨_, rfl, ?_⟩
  exact World.ownsRow.cells h (g := g) rfl i _ (by rw [List.getElem?_map, List.getElem?_eq_getElem hi]; rfl)
theorem mblk_set6 {w : World} {b : Nat} {T : TypeId} {u0 u1 u2 u3 u4 u5 : Value} (h : MBlk w b #[u0, u1, u2, u3, u4, u5] T) (v0 v1 v2 v3 v4 v5 : Value) : MBlk ((((((w.setCell ⟨b, 0, none⟩ v0).setCell ⟨b, 1, none⟩ v1).setCell ⟨b, 2, none⟩ v2).setCell ⟨b, 3, none⟩ v3).setCell ⟨b, 4, none⟩ v4).setCell ⟨b, 5, none⟩ v5) b #[v0, v1, v2, v3, v4, v5] T := by
  have h1 : MBlk (w.setCell ⟨b, 0, none⟩ v0) b #[v0, u1, u2, u3, u4, u5] T := by
    have := heap_setCell_same _ b 0 _ _ v0 h
    rwa [show (#[u0, u1, u2, u3, u4, u5] : Array Value).setIfInBounds 0 v0 = #[v0, u1, u2, u3, u4, u5] from rfl] at this
  have h2 : MBlk ((w.setCell ⟨b, 0, none⟩ v0).setCell ⟨b, 1, none⟩ v1) b #[v0, v1, u2, u3, u4, u5] T := by
    have := heap_setCell_same _ b 1 _ _ v1 h1
    rwa [show (#[v0, u1, u2, u3, u4, u5] : Array Value).setIfInBounds 1 v1 = #[v0, v1, u2, u3, u4, u5] from rfl] at this
  have h3 : MBlk (((w.setCell ⟨b, 0, none⟩ v0).setCell ⟨b, 1, none⟩ v1).setCell ⟨b, 2, none⟩ v2) b #[v0, v1, v2, u3, u4, u5] T := by
    have := heap_setCell_same _ b 2 _ _ v2 h2
    rwa [show (#[v0, v1, u2, u3, u4, u5] : Array Value).setIfInBounds 2 v2 = #[v0, v1, v2, u3, u4, u5] from rfl] at this
  have h4 : MBlk ((((w.setCell ⟨b, 0, none⟩ v0).setCell ⟨b, 1, none⟩ v1).setCell ⟨b, 2, none⟩ v2).setCell ⟨b, 3, none⟩ v3) b #[v0, v1, v2, v3, u4, u5] T := by
    have := heap_setCell_same _ b 3 _ _ v3 h3
    rwa [show (#[v0, v1, v2, u3, u4, u5] : Array Value).setIfInBounds 3 v3 = #[v0, v1, v2, v3, u4, u5] from rfl] at this
  have h5 : MBlk (((((w.setCell ⟨b, 0, none⟩ v0).setCell ⟨b, 1, none⟩ v1).setCell ⟨b, 2, none⟩ v2).setCell ⟨b, 3, none⟩ v3).setCell ⟨b, 4, none⟩ v4) b #[v0, v1, v2, v3, v4, u5] T := by
    have := heap_setCell_same _ b 4 _ _ v4 h4
    rwa [show (#[v0, v1, v2, v3, u4, u5] : Array Value).setIfInBounds 4 v4 = #[v0, v1, v2, v3, v4, u5] from rfl] at this
  have h6 : MBlk ((((((w.setCell ⟨b, 0, none⟩ v0).setCell ⟨b, 1, none⟩ v1).setCell ⟨b, 2, none⟩ v2).setCell ⟨b, 3, none⟩ v3).setCell ⟨b, 4, none⟩ v4).setCell ⟨b, 5, none⟩ v5) b #[v0, v1, v2, v3, v4, v5] T := by
    have := heap_setCell_same _ b 5 _ _ v5 h5
    rwa [show (#[v0, v1, v2, v3, v4, u5] : Array Value).setIfInBounds 5 v5 = #[v0, v1, v2, v3, v4, v5] from rfl] at this
  exact h6
theorem nam_sets {x : World} {p : Option Addr} {l : List ByteArray} {s2 s3 : Nat} (h : NamAt x p l) (hne : ∀ a, p = some a → a.block ≠ s2 ∧ a.block ≠ s3) (us30 us35 us20 us21 us22 us23 us24 us25 : Value) : NamAt ((((((((x.setCell ⟨s3, 0, none⟩ us30).setCell ⟨s3, 5, none⟩ us35).setCell ⟨s2, 0, none⟩ us20).setCell ⟨s2, 1, none⟩ us21).setCell ⟨s2, 2, none⟩ us22).setCell ⟨s2, 3, none⟩ us23).setCell ⟨s2, 4, none⟩ us24).setCell ⟨s2, 5, none⟩ us25) p l := fun i hi => by
  obtain ⟨a, ha, hc⟩ := h i hi
  obtain ⟨n2, n3⟩ := hne a ha
  have hb : (a.add i).block = a.block := by unfold Addr.add; split <;> rfl
  refine ⟨a, ha, ?_⟩
  rw [World.cell?_of_block (w := x)]
  · exact hc
  · rw [hb, Below.heap_setCell _ _ _ _ n2, Below.heap_setCell _ _ _ _ n2, Below.heap_setCell _ _ _ _ n2, Below.heap_setCell _ _ _ _ n2, Below.heap_setCell _ _ _ _ n2, Below.heap_setCell _ _ _ _ n2, Below.heap_setCell _ _ _ _ n3, Below.heap_setCell _ _ _ _ n3]
theorem below_sets {B : Nat} {v x : World} {s2 s3 : Nat} (h : Below B v x) (h2 : B ≤ s2) (h3 : B ≤ s3) (us30 us35 us20 us21 us22 us23 us24 us25 : Value) : Below B v ((((((((x.setCell ⟨s3, 0, none⟩ us30).setCell ⟨s3, 5, none⟩ us35).setCell ⟨s2, 0, none⟩ us20).setCell ⟨s2, 1, none⟩ us21).setCell ⟨s2, 2, none⟩ us22).setCell ⟨s2, 3, none⟩ us23).setCell ⟨s2, 4, none⟩ us24).setCell ⟨s2, 5, none⟩ us25) :=
  ((((((((h.setCell (p := ⟨s3, 0, none⟩) h3 us30).setCell (p := ⟨s3, 5, none⟩) h3 us35).setCell (p := ⟨s2, 0, none⟩) h2 us20).setCell (p := ⟨s2, 1, none⟩) h2 us21).setCell (p := ⟨s2, 2, none⟩) h2 us22).setCell (p := ⟨s2, 3, none⟩) h2 us23).setCell (p := ⟨s2, 4, none⟩) h2 us24).setCell (p := ⟨s2, 5, none⟩) h2 us25)
set_option maxRecDepth 100000 in
set_option maxHeartbeats 16000000 in
theorem mref_LaterFeed (f g : FeedD) (v u : Value) (w : World) (hf : FeedIs w f v) (hg : FeedIs w g u) (h1 : f.path.length ≤ 100000) (h2 : g.path.length ≤ 100000) (k1 : ∀ wx v, FeedIs wx f v → Calls Tryz.prog 34 #[v] wx fun e w' => e = .returned (.string (ofBytes (fkL f))) ∧ Below wx.heap.size wx w') (k2 : ∀ wx v, FeedIs wx g v → Calls Tryz.prog 34 #[v] wx fun e w' => e = .returned (.string (ofBytes (fkL g))) ∧ Below wx.heap.size wx w') :
    Calls Tryz.prog 16 #[v, u] w fun e w' => (∃ x, e = .returned x ∧ FeedIs w' (ltF f g) x) ∧ Below w.heap.size w w' := by
  obtain ⟨p1, c1, q1, d1, rfl, hp1, he1⟩ := hf
  obtain ⟨p2, c2, q2, d2, rfl, hp2, he2⟩ := hg
  obtain ⟨W4, hW4⟩ : ∃ W4, W4 = ((((w.alloc (.cells #[.slice p1 f.path.length c1, .string f.id, .string f.title, .string f.link, .int .i64 f.upd, .slice q1 f.ents.length d1] 30)).alloc (.cells #[.slice p2 g.path.length c2, .string g.id, .string g.title, .string g.link, .int .i64 g.upd, .slice q2 g.ents.length d2] 30)).alloc (.cells #[.slice none 0 0, .string ⟨#[]⟩, .string ⟨#[]⟩, .string ⟨#[]⟩, .int .i64 0, .slice none 0 0] 30)).alloc (.cells #[.slice p1 f.path.length c1, .string f.id, .string f.title, .string f.link, .int .i64 f.upd, .slice q1 f.ents.length d1] 30)) := ⟨_, rfl⟩
  have hB : Below w.heap.size w W4 := by rw [hW4]; exact ((((Below.refl _ _).alloc (Nat.le_refl _) _).alloc (by simp) _).alloc (by simp; omega) _).alloc (by simp; omega) _
  have hz : W4.heap.size = w.heap.size + 4 := by rw [hW4]; simp
  obtain ⟨X1, X2⟩ : FBox W4 w.heap.size f p1 c1 q1 d1 ∧ FBox W4 (w.heap.size + 1) g p2 c2 q2 d2 := by
    obtain ⟨a1, a2⟩ := FBox.both w f g p1 c1 q1 d1 p2 c2 q2 d2
    rw [hW4]
    exact ⟨(a1.below ((Below.refl _ _).alloc (Nat.le_refl _) _)).below ((Below.refl _ _).alloc (Nat.le_refl _) _), (a2.below ((Below.refl _ _).alloc (Nat.le_refl _) _)).below ((Below.refl _ _).alloc (Nat.le_refl _) _)⟩
  have M2 : MBlk W4 (w.heap.size + 1 + 1) #[.slice none 0 0, .string ⟨#[]⟩, .string ⟨#[]⟩, .string ⟨#[]⟩, .int .i64 0, .slice none 0 0] 30 := by
    have := heap_alloc_new ((w.alloc (.cells #[.slice p1 f.path.length c1, .string f.id, .string f.title, .string f.link, .int .i64 f.upd, .slice q1 f.ents.length d1] 30)).alloc (.cells #[.slice p2 g.path.length c2, .string g.id, .string g.title, .string g.link, .int .i64 g.upd, .slice q2 g.ents.length d2] 30)) (.cells #[.slice none 0 0, .string ⟨#[]⟩, .string ⟨#[]⟩, .string ⟨#[]⟩, .int .i64 0, .slice none 0 0] 30)
    rw [World.size_alloc, World.size_alloc] at this
    rw [hW4]
    exact (show MBlk (((w.alloc (.cells #[.slice p1 f.path.length c1, .string f.id, .string f.title, .string f.link, .int .i64 f.upd, .slice q1 f.ents.length d1] 30)).alloc (.cells #[.slice p2 g.path.length c2, .string g.id, .string g.title, .string g.link, .int .i64 g.upd, .slice q2 g.ents.length d2] 30)).alloc (.cells #[.slice none 0 0, .string ⟨#[]⟩, .string ⟨#[]⟩, .string ⟨#[]⟩, .int .i64 0, .slice none 0 0] 30)) (w.heap.size + 1 + 1) _ _ from this).more ((Below.refl _ _).alloc (Nat.le_refl _) _)
  have M3 : MBlk W4 (w.heap.size + 1 + 1 + 1) #[.slice p1 f.path.length c1, .string f.id, .string f.title, .string f.link, .int .i64 f.upd, .slice q1 f.ents.length d1] 30 := by
    have := heap_alloc_new (((w.alloc (.cells #[.slice p1 f.path.length c1, .string f.id, .string f.title, .string f.link, .int .i64 f.upd, .slice q1 f.ents.length d1] 30)).alloc (.cells #[.slice p2 g.path.length c2, .string g.id, .string g.title, .string g.link, .int .i64 g.upd, .slice q2 g.ents.length d2] 30)).alloc (.cells #[.slice none 0 0, .string ⟨#[]⟩, .string ⟨#[]⟩, .string ⟨#[]⟩, .int .i64 0, .slice none 0 0] 30)) (.cells #[.slice p1 f.path.length c1, .string f.id, .string f.title, .string f.link, .int .i64 f.upd, .slice q1 f.ents.length d1] 30)
    rw [World.size_alloc, World.size_alloc, World.size_alloc] at this
    rw [hW4]
    exact this
  have HF1 := Lib.hid (fun (wx : World) (hb : Below W4.heap.size W4 wx) => (show FeedIs wx f (.agg #[.slice p1 f.path.length c1, .string f.id, .string f.title, .string f.link, .int .i64 f.upd, .slice q1 f.ents.length d1]) from ⟨p1, c1, q1, d1, rfl, (hp1.below hB).below hb, (he1.below hB).below hb⟩))
  have HG1 := Lib.hid (fun (wx : World) (hb : Below W4.heap.size W4 wx) => (show FeedIs wx g (.agg #[.slice p2 g.path.length c2, .string g.id, .string g.title, .string g.link, .int .i64 g.upd, .slice q2 g.ents.length d2]) from ⟨p2, c2, q2, d2, rfl, (hp2.below hB).below hb, (he2.below hB).below hb⟩))
  have HP1 := Lib.hid hp1
  have HP2 := Lib.hid hp2
  have HB := Lib.hid hB
  have HX1 := Lib.hid X1
  have HX2 := Lib.hid X2
  have HM2 := Lib.hid M2
  have HM3 := Lib.hid M3
  have h1z : (f.path.length : Int) ≤ 100000 := by omega
  have h2z : (g.path.length : Int) ≤ 100000 := by omega
  obtain ⟨i0, hi0, hi1, hi3, hi4⟩ := info_parts mstr_info
  obtain ⟨e0, e1, e2, e3, e4, e5⟩ := X1
  obtain ⟨f0, f1, f2, f3, f4, f5⟩ := X2
  have hgt := gt_less (fkL f) (fkL g)
  unfold ltF ltFB
  generalize ofBytes (fkL f) = kx at *
  generalize ofBytes (fkL g) = ky at *
  generalize Op.bytesLess (fkL f) (fkL g) = q at *
  clear hB hp1 hp2 he1 he2 M2 M3
  by_cases hlt : f.upd < g.upd
  · rw [decide_eq_true hlt, Bool.true_or, if_pos rfl]
    clear k1 k2 hgt HF1 HG1
    go_enter Tryz.func16, Tryz.ntmps16
    go_upto_region 2 with fail
    simp only [← hW4]
    clear hW4
    go_wp2
    go_quiet (fail)
    have hbq : Below W4.heap.size W4 (W4.drewN nq) := mdrewN (Below.refl _ _) nq
    have M2q := HM2.out.more hbq
    have M3q := HM3.out.more hbq
    have X2q := HX2.out.below hbq
    have HQB0 := Lib.hid (HB.out.trans (hbq.mono HB.out.size))
    have hszq : w.heap.size + 4 ≤ (W4.drewN nq).heap.size := by have := hbq.size; omega
    clear HM2 HM3 HB HX1 HX2
    clear e0 e1 e2 e3 e4 e5 f0 f1 f2 f3 f4 f5 hbq
    generalize (W4.drewN nq) = Wq at *
    obtain ⟨f0, f1, f2, f3, f4, f5⟩ := X2q
    have r0 := M3q.cell 0
    have t0 := M3q.fr 0
    have r1 := M3q.cell 1
    have t1 := M3q.fr 1
    have r2 := M3q.cell 2
    have t2 := M3q.fr 2
    have r3 := M3q.cell 3
    have t3 := M3q.fr 3
    have r4 := M3q.cell 4
    have t4 := M3q.fr 4
    have r5 := M3q.cell 5
    have t5 := M3q.fr 5
    simp only [List.getElem?_toArray, List.getElem?_cons_zero, List.getElem?_cons_succ] at r0 r1 r2 r3 r4 r5
    obtain ⟨W5, hW5⟩ : ∃ W5, W5 = ((((((Wq.setCell ⟨w.heap.size + 1 + 1 + 1, 0, none⟩ (.slice p2 g.path.length c2)).setCell ⟨w.heap.size + 1 + 1 + 1, 1, none⟩ (.string g.id)).setCell ⟨w.heap.size + 1 + 1 + 1, 2, none⟩ (.string g.title)).setCell ⟨w.heap.size + 1 + 1 + 1, 3, none⟩ (.string g.link)).setCell ⟨w.heap.size + 1 + 1 + 1, 4, none⟩ (.int .i64 g.upd)).setCell ⟨w.heap.size + 1 + 1 + 1, 5, none⟩ (.slice q2 g.ents.length d2)) := ⟨_, rfl⟩
    have HQ3 := Lib.hid (show MBlk W5 (w.heap.size + 1 + 1 + 1) #[.slice p2 g.path.length c2, .string g.id, .string g.title, .string g.link, .int .i64 g.upd, .slice q2 g.ents.length d2] 30 by rw [hW5]; exact mblk_set6 M3q (.slice p2 g.path.length c2) (.string g.id) (.string g.title) (.string g.link) (.int .i64 g.upd) (.slice q2 g.ents.length d2))
    have HQ2 := Lib.hid (show MBlk W5 (w.heap.size + 1 + 1) #[.slice none 0 0, .string ⟨#[]⟩, .string ⟨#[]⟩, .string ⟨#[]⟩, .int .i64 0, .slice none 0 0] 30 by
      rw [hW5]
      unfold MBlk
      rw [Below.heap_setCell _ _ _ _ (show w.heap.size + 1 + 1 ≠ w.heap.size + 1 + 1 + 1 by omega), Below.heap_setCell _ _ _ _ (show w.heap.size + 1 + 1 ≠ w.heap.size + 1 + 1 + 1 by omega), Below.heap_setCell _ _ _ _ (show w.heap.size + 1 + 1 ≠ w.heap.size + 1 + 1 + 1 by omega), Below.heap_setCell _ _ _ _ (show w.heap.size + 1 + 1 ≠ w.heap.size + 1 + 1 + 1 by omega), Below.heap_setCell _ _ _ _ (show w.heap.size + 1 + 1 ≠ w.heap.size + 1 + 1 + 1 by omega), Below.heap_setCell _ _ _ _ (show w.heap.size + 1 + 1 ≠ w.heap.size + 1 + 1 + 1 by omega)]
      exact M2q)
    have HQB := Lib.hid (show Below w.heap.size w W5 by rw [hW5]; exact ((((((HQB0.out.setCell (p := ⟨w.heap.size + 1 + 1 + 1, 0, none⟩) (by show _ ≤ w.heap.size + 1 + 1 + 1; omega) _).setCell (p := ⟨w.heap.size + 1 + 1 + 1, 1, none⟩) (by show _ ≤ w.heap.size + 1 + 1 + 1; omega) _).setCell (p := ⟨w.heap.size + 1 + 1 + 1, 2, none⟩) (by show _ ≤ w.heap.size + 1 + 1 + 1; omega) _).setCell (p := ⟨w.heap.size + 1 + 1 + 1, 3, none⟩) (by show _ ≤ w.heap.size + 1 + 1 + 1; omega) _).setCell (p := ⟨w.heap.size + 1 + 1 + 1, 4, none⟩) (by show _ ≤ w.heap.size + 1 + 1 + 1; omega) _).setCell (p := ⟨w.heap.size + 1 + 1 + 1, 5, none⟩) (by show _ ≤ w.heap.size + 1 + 1 + 1; omega) _))
    have HQP := Lib.hid (HP2.out.below HQB.out)
    have hsz : w.heap.size + 4 ≤ W5.heap.size := by rw [hW5]; simp [World.setCell]; omega
    clear M2q M3q HQB0 hszq
    go_upto_region 4 with fail
    simp only [← hW5]
    clear hW5 r0 r1 r2 r3 r4 r5 t0 t1 t2 t3 t4 t5 f0 f1 f2 f3 f4 f5
    have HA5 : Below W5.heap.size W5 (W5.alloc (.cells #[] 9)) := (Below.refl _ _).alloc (Nat.le_refl _) _
    have x0 := HQ3.out.cell 0
    simp only [List.getElem?_toArray, List.getElem?_cons_zero] at x0
    by_cases hpn : g.path = []
    · have hl0 : g.path.length = 0 := by rw [hpn]; rfl
      have hS : Src Tryz.prog i0.size 27 (.slice p2 g.path.length c2) 0 [] (W5.alloc (.cells #[] 9)) := by
        rw [hl0]
        cases p2 with
        | none => exact Src.ofNil _ Tryz.underlying27 _
        | some ad => exact Src.ofSlice _ Tryz.underlying27 ad 0 _ [] (by simp) (fun j u hj => by simp at hj) (fun u hu => by cases hu)
      have H6 : NamAt (W5.alloc (.cells #[] 9)) (some ⟨W5.heap.size, 0, none⟩) g.path := fun i hi => absurd hi (by omega)
      have R3 := HQ3.out.more HA5
      have R2 := HQ2.out.more HA5
      have RB := HQB.out.trans (HA5.mono HQB.out.size)
      have r0 := R3.cell 0
      have t0 := R3.fr 0
      have r1 := R3.cell 1
      have t1 := R3.fr 1
      have r2 := R3.cell 2
      have t2 := R3.fr 2
      have r3 := R3.cell 3
      have t3 := R3.fr 3
      have r4 := R3.cell 4
      have t4 := R3.fr 4
      have r5 := R3.cell 5
      have t5 := R3.fr 5
      have m0 := R2.cell 0
      have n0 := R2.fr 0
      have m1 := R2.cell 1
      have n1 := R2.fr 1
      have m2 := R2.cell 2
      have n2 := R2.fr 2
      have m3 := R2.cell 3
      have n3 := R2.fr 3
      have m4 := R2.cell 4
      have n4 := R2.fr 4
      have m5 := R2.cell 5
      have n5 := R2.fr 5
      simp only [List.getElem?_toArray, List.getElem?_cons_zero, List.getElem?_cons_succ] at r0 m0 r1 m1 r2 m2 r3 m3 r4 m4 r5 m5
      have HNF := Lib.hid (nam_sets (s2 := w.heap.size + 1 + 1) (s3 := w.heap.size + 1 + 1 + 1) H6 (fun a ha => by injection ha with ha; subst ha; constructor <;> (show _ ≠ _; dsimp only; omega)) (.slice (some ⟨W5.heap.size, 0, none⟩) g.path.length 0) (.slice none 0 0) (.slice (some ⟨W5.heap.size, 0, none⟩) g.path.length 0) (.string g.id) (.string g.title) (.string g.link) (.int .i64 g.upd) (.slice none 0 0))
      have HBF := Lib.hid (below_sets (s2 := w.heap.size + 1 + 1) (s3 := w.heap.size + 1 + 1 + 1) RB (by omega) (by omega) (.slice (some ⟨W5.heap.size, 0, none⟩) g.path.length 0) (.slice none 0 0) (.slice (some ⟨W5.heap.size, 0, none⟩) g.path.length 0) (.string g.id) (.string g.title) (.string g.link) (.int .i64 g.upd) (.slice none 0 0))
      rw [hl0] at HNF HBF
      clear HA5 HQ3 HQ2 HQB HQP x0 H6 R3 R2 RB hpn
      have HL0 := Lib.hid hl0
      clear hl0
      go_wp2_with (at_builtin; refine wpList_append_zero _ rfl (.tmp 27) (.tmp 29) 27 rfl 9 i0 Tryz.underlying27 hi0 W5.heap.size 0 _ hS rfl rfl ?_)
      refine bodyPost_ret (v := .agg #[.slice (some ⟨W5.heap.size, 0, none⟩) 0 0, .string g.id, .string g.title, .string g.link, .int .i64 g.upd, .slice none 0 0]) (by simp [results, Tryz.results16, go_sem, mset_same, m0, m1, m2, m3, m4, m5]) rfl ⟨⟨_, rfl, ⟨some ⟨W5.heap.size, 0, none⟩, 0, none, 0, ?_, HNF.out, fun i hi => absurd hi (Nat.not_lt_zero _)⟩⟩, HBF.out⟩
      rw [show (bareF g).path.length = 0 from HL0.out]
      rfl
    · obtain ⟨ad, rfl, -⟩ := HQP.out 0 (List.length_pos_iff.2 hpn)
      have hpos : 0 < g.path.length := List.length_pos_iff.2 hpn
      have hnews := nam_news (HQP.out.below HA5)
      have hown0 : (W5.alloc (.cells #[] 9)).ownsRow W5.heap.size 9 1 (.slice (some ⟨W5.heap.size, 0, none⟩) 0 0) 0 [] := World.ownsRow_made W5 #[] 0 (Nat.le_refl _) (by decide) rfl
      have HFA := Lib.hid (fun (w6 : World) (hg : (W5.alloc (.cells #[] 9)).grownBy w6 (some W5.heap.size)) => (show MBlk w6 (w.heap.size + 1 + 1 + 1) _ _ ∧ MBlk w6 (w.heap.size + 1 + 1) _ _ ∧ Below w.heap.size w w6 from
        ⟨(hg.block _ (by simp; omega) (fun e => by injection e; omega)).trans (HQ3.out.more HA5), (hg.block _ (by simp; omega) (fun e => by injection e; omega)).trans (HQ2.out.more HA5), (HQB.out.trans (HA5.mono HQB.out.size)).grown hg (by simp; omega) (fun j hj => by injection hj; omega)⟩))
      have y0 := (HQ3.out.more HA5).cell 0
      simp only [List.getElem?_toArray, List.getElem?_cons_zero] at y0
      clear HA5 x0
      go_wp2_with (at_builtin; refine wpList_append_lies _ rfl (.tmp 27) (.tmp 29) 27 rfl W5.heap.size 9 i0 (.string ⟨#[]⟩) 1 16 Tryz.underlying27 hi0 hi1 hi3 hi4 rfl (by decide) (.slice (some ⟨W5.heap.size, 0, none⟩) 0 0) 0 [] rfl hown0 ad g.path.length c2 (g.path.map Value.string) rfl (by rw [List.length_map, Nat.mul_one]) hnews (by intro u hu; obtain ⟨x, -, rfl⟩ := List.mem_map.1 hu; rfl) hpos (by unfold maxLen; omega) (by omega) (by simp) (W5.heap.size + 1) (by simp) ?_; intro gb cap' w6 hown6 hgr6 hat6 hlt6; obtain ⟨R3, R2, RB⟩ := HFA.out w6 hgr6; have hgb : W5.heap.size ≤ gb := (by rcases hat6 with e | e; (have e2 : some W5.heap.size = some gb := e; injection e2 with e2; omega); omega); have hnm : NamAt w6 (some ⟨gb, 0, none⟩) g.path := nam_own hown6; have r0 := R3.cell 0; have t0 := R3.fr 0; have r1 := R3.cell 1; have t1 := R3.fr 1; have r2 := R3.cell 2; have t2 := R3.fr 2; have r3 := R3.cell 3; have t3 := R3.fr 3; have r4 := R3.cell 4; have t4 := R3.fr 4; have r5 := R3.cell 5; have t5 := R3.fr 5; have m0 := R2.cell 0; have n0 := R2.fr 0; have m1 := R2.cell 1; have n1 := R2.fr 1; have m2 := R2.cell 2; have n2 := R2.fr 2; have m3 := R2.cell 3; have n3 := R2.fr 3; have m4 := R2.cell 4; have n4 := R2.fr 4; have m5 := R2.cell 5; have n5 := R2.fr 5; simp only [List.getElem?_toArray, List.getElem?_cons_zero, List.getElem?_cons_succ] at r0 m0 r1 m1 r2 m2 r3 m3 r4 m4 r5 m5; have HNF := Lib.hid (nam_sets (s2 := w.heap.size + 1 + 1) (s3 := w.heap.size + 1 + 1 + 1) hnm (fun a ha => by injection ha with ha; subst ha; constructor <;> (show _ ≠ _; dsimp only; omega)) (.slice (some ⟨gb, 0, none⟩) g.path.length cap') (.slice none 0 0) (.slice (some ⟨gb, 0, none⟩) g.path.length cap') (.string g.id) (.string g.title) (.string g.link) (.int .i64 g.upd) (.slice none 0 0)); have HBF := Lib.hid (below_sets (s2 := w.heap.size + 1 + 1) (s3 := w.heap.size + 1 + 1 + 1) RB (by omega) (by omega) (.slice (some ⟨gb, 0, none⟩) g.path.length cap') (.slice none 0 0) (.slice (some ⟨gb, 0, none⟩) g.path.length cap') (.string g.id) (.string g.title) (.string g.link) (.int .i64 g.upd) (.slice none 0 0)); clear hown6 hgr6 hat6 hlt6 R3 R2 RB hnm y0; try simp only [Nat.zero_add])
      exact bodyPost_ret (v := .agg #[.slice (some ⟨gb, 0, none⟩) g.path.length cap', .string g.id, .string g.title, .string g.link, .int .i64 g.upd, .slice none 0 0]) (by simp [results, Tryz.results16, go_sem, mset_same, m0, m1, m2, m3, m4, m5]) rfl ⟨⟨_, rfl, ⟨_, _, none, 0, rfl, HNF.out, fun i hi => absurd hi (Nat.not_lt_zero _)⟩⟩, HBF.out⟩
  · rw [decide_eq_false hlt, Bool.false_or]
    by_cases heq : f.upd = g.upd
    · rw [decide_eq_true heq, Bool.true_and]
      have hGE := fun (wx : World) (hb : Below W4.heap.size W4 wx) => HG1.out wx hb
      rw [← heq] at f4 hW4 hGE
      rw [← heq]
      have HEQ := Lib.hid heq
      have HGE := Lib.hid hGE
      clear heq hGE HG1 hlt
      cases q
      · rw [if_neg (by simp)]
        go_enter Tryz.func16, Tryz.ntmps16
        go_upto_region 2 with fail
        simp only [← hW4]
        clear hW4
        go_wp2
        have S0 : (W4.drew.cell? ⟨w.heap.size, 0, none⟩ = some (.slice p1 f.path.length c1) ∧ W4.drew.cell? ⟨w.heap.size, 1, none⟩ = some (.string f.id) ∧ W4.drew.cell? ⟨w.heap.size, 2, none⟩ = some (.string f.title) ∧ W4.drew.cell? ⟨w.heap.size, 3, none⟩ = some (.string f.link) ∧ W4.drew.cell? ⟨w.heap.size, 4, none⟩ = some (.int .i64 f.upd) ∧ W4.drew.cell? ⟨w.heap.size, 5, none⟩ = some (.slice q1 f.ents.length d1)) ∧ (W4.drew.cell? ⟨w.heap.size + 1, 0, none⟩ = some (.slice p2 g.path.length c2) ∧ W4.drew.cell? ⟨w.heap.size + 1, 1, none⟩ = some (.string g.id) ∧ W4.drew.cell? ⟨w.heap.size + 1, 2, none⟩ = some (.string g.title) ∧ W4.drew.cell? ⟨w.heap.size + 1, 3, none⟩ = some (.string g.link) ∧ W4.drew.cell? ⟨w.heap.size + 1, 4, none⟩ = some (.int .i64 f.upd) ∧ W4.drew.cell? ⟨w.heap.size + 1, 5, none⟩ = some (.slice q2 g.ents.length d2)) := ⟨⟨e0, e1, e2, e3, e4, e5⟩, ⟨f0, f1, f2, f3, f4, f5⟩⟩
        have hSB : ∀ x1 x2 : World, Below x1.heap.size x1 x2 → ((x1.cell? ⟨w.heap.size, 0, none⟩ = some (.slice p1 f.path.length c1) ∧ x1.cell? ⟨w.heap.size, 1, none⟩ = some (.string f.id) ∧ x1.cell? ⟨w.heap.size, 2, none⟩ = some (.string f.title) ∧ x1.cell? ⟨w.heap.size, 3, none⟩ = some (.string f.link) ∧ x1.cell? ⟨w.heap.size, 4, none⟩ = some (.int .i64 f.upd) ∧ x1.cell? ⟨w.heap.size, 5, none⟩ = some (.slice q1 f.ents.length d1)) ∧ (x1.cell? ⟨w.heap.size + 1, 0, none⟩ = some (.slice p2 g.path.length c2) ∧ x1.cell? ⟨w.heap.size + 1, 1, none⟩ = some (.string g.id) ∧ x1.cell? ⟨w.heap.size + 1, 2, none⟩ = some (.string g.title) ∧ x1.cell? ⟨w.heap.size + 1, 3, none⟩ = some (.string g.link) ∧ x1.cell? ⟨w.heap.size + 1, 4, none⟩ = some (.int .i64 f.upd) ∧ x1.cell? ⟨w.heap.size + 1, 5, none⟩ = some (.slice q2 g.ents.length d2))) → ((x2.cell? ⟨w.heap.size, 0, none⟩ = some (.slice p1 f.path.length c1) ∧ x2.cell? ⟨w.heap.size, 1, none⟩ = some (.string f.id) ∧ x2.cell? ⟨w.heap.size, 2, none⟩ = some (.string f.title) ∧ x2.cell? ⟨w.heap.size, 3, none⟩ = some (.string f.link) ∧ x2.cell? ⟨w.heap.size, 4, none⟩ = some (.int .i64 f.upd) ∧ x2.cell? ⟨w.heap.size, 5, none⟩ = some (.slice q1 f.ents.length d1)) ∧ (x2.cell? ⟨w.heap.size + 1, 0, none⟩ = some (.slice p2 g.path.length c2) ∧ x2.cell? ⟨w.heap.size + 1, 1, none⟩ = some (.string g.id) ∧ x2.cell? ⟨w.heap.size + 1, 2, none⟩ = some (.string g.title) ∧ x2.cell? ⟨w.heap.size + 1, 3, none⟩ = some (.string g.link) ∧ x2.cell? ⟨w.heap.size + 1, 4, none⟩ = some (.int .i64 f.upd) ∧ x2.cell? ⟨w.heap.size + 1, 5, none⟩ = some (.slice q2 g.ents.length d2))) := fun x1 x2 hb h => by
          obtain ⟨⟨z0, z1, z2, z3, z4, z5⟩, ⟨y0, y1, y2, y3, y4, y5⟩⟩ := h
          exact ⟨⟨mcell hb z0, mcell hb z1, mcell hb z2, mcell hb z3, mcell hb z4, mcell hb z5⟩, ⟨mcell hb y0, mcell hb y1, mcell hb y2, mcell hb y3, mcell hb y4, mcell hb y5⟩⟩
        have bd : Below W4.heap.size W4 W4.drew := (Below.refl _ _).drew
        clear e0 e1 e2 e3 e4 e5 f0 f1 f2 f3 f4 f5
        go_region_held3 (fun w' => (w'.cell? ⟨w.heap.size, 0, none⟩ = some (.slice p1 f.path.length c1) ∧ w'.cell? ⟨w.heap.size, 1, none⟩ = some (.string f.id) ∧ w'.cell? ⟨w.heap.size, 2, none⟩ = some (.string f.title) ∧ w'.cell? ⟨w.heap.size, 3, none⟩ = some (.string f.link) ∧ w'.cell? ⟨w.heap.size, 4, none⟩ = some (.int .i64 f.upd) ∧ w'.cell? ⟨w.heap.size, 5, none⟩ = some (.slice q1 f.ents.length d1)) ∧ (w'.cell? ⟨w.heap.size + 1, 0, none⟩ = some (.slice p2 g.path.length c2) ∧ w'.cell? ⟨w.heap.size + 1, 1, none⟩ = some (.string g.id) ∧ w'.cell? ⟨w.heap.size + 1, 2, none⟩ = some (.string g.title) ∧ w'.cell? ⟨w.heap.size + 1, 3, none⟩ = some (.string g.link) ∧ w'.cell? ⟨w.heap.size + 1, 4, none⟩ = some (.int .i64 f.upd) ∧ w'.cell? ⟨w.heap.size + 1, 5, none⟩ = some (.slice q2 g.ents.length d2))) (first | with_reducible exact S0 | with_reducible exact S5 | with_reducible exact S6) (first | (go_at_call 34; with_reducible refine (k1 _ _ (HF1.out _ b45)).mono ?_; rintro e w6 ⟨rfl, b6⟩; have S6 := hSB _ _ b6 S5; have b46 := b45.trans (b6.mono b45.size)) | (go_at_call 34; with_reducible refine (k2 _ _ (HGE.out _ bd)).mono ?_; rintro e w5 ⟨rfl, b5⟩; have S5 := hSB _ _ b5 S0; have b45 := bd.trans (b5.mono bd.size)))
        clear S0 S5 S6 hSB bd b5 b6 b45 k1 k2 hgt HF1 HGE
        have HQ2 := Lib.hid (HM2.out.more b46)
        have HQ3 := Lib.hid (HM3.out.more b46)
        have HQB := Lib.hid (HB.out.trans (b46.mono HB.out.size))
        have HQP := Lib.hid (HP1.out.below HQB.out)
        have hsz : w.heap.size + 4 ≤ w6.heap.size := by have := b46.size; omega
        clear HM2 HM3 HP1 HP2 HB HX1 HX2 b46
        generalize w6 = W5 at *
        have HA5 : Below W5.heap.size W5 (W5.alloc (.cells #[] 9)) := (Below.refl _ _).alloc (Nat.le_refl _) _
        have x0 := HQ3.out.cell 0
        simp only [List.getElem?_toArray, List.getElem?_cons_zero] at x0
        by_cases hpn : f.path = []
        · have hl0 : f.path.length = 0 := by rw [hpn]; rfl
          have hS : Src Tryz.prog i0.size 27 (.slice p1 f.path.length c1) 0 [] (W5.alloc (.cells #[] 9)) := by
            rw [hl0]
            cases p1 with
            | none => exact Src.ofNil _ Tryz.underlying27 _
            | some ad => exact Src.ofSlice _ Tryz.underlying27 ad 0 _ [] (by simp) (fun j u hj => by simp at hj) (fun u hu => by cases hu)
          have H6 : NamAt (W5.alloc (.cells #[] 9)) (some ⟨W5.heap.size, 0, none⟩) f.path := fun i hi => absurd hi (by omega)
          have R3 := HQ3.out.more HA5
          have R2 := HQ2.out.more HA5
          have RB := HQB.out.trans (HA5.mono HQB.out.size)
          have r0 := R3.cell 0
          have t0 := R3.fr 0
          have r1 := R3.cell 1
          have t1 := R3.fr 1
          have r2 := R3.cell 2
          have t2 := R3.fr 2
          have r3 := R3.cell 3
          have t3 := R3.fr 3
          have r4 := R3.cell 4
          have t4 := R3.fr 4
          have r5 := R3.cell 5
          have t5 := R3.fr 5
          have m0 := R2.cell 0
          have n0 := R2.fr 0
          have m1 := R2.cell 1
          have n1 := R2.fr 1
          have m2 := R2.cell 2
          have n2 := R2.fr 2
          have m3 := R2.cell 3
          have n3 := R2.fr 3
          have m4 := R2.cell 4
          have n4 := R2.fr 4
          have m5 := R2.cell 5
          have n5 := R2.fr 5
          simp only [List.getElem?_toArray, List.getElem?_cons_zero, List.getElem?_cons_succ] at r0 m0 r1 m1 r2 m2 r3 m3 r4 m4 r5 m5
          have HNF := Lib.hid (nam_sets (s2 := w.heap.size + 1 + 1) (s3 := w.heap.size + 1 + 1 + 1) H6 (fun a ha => by injection ha with ha; subst ha; constructor <;> (show _ ≠ _; dsimp only; omega)) (.slice (some ⟨W5.heap.size, 0, none⟩) f.path.length 0) (.slice none 0 0) (.slice (some ⟨W5.heap.size, 0, none⟩) f.path.length 0) (.string f.id) (.string f.title) (.string f.link) (.int .i64 f.upd) (.slice none 0 0))
          have HBF := Lib.hid (below_sets (s2 := w.heap.size + 1 + 1) (s3 := w.heap.size + 1 + 1 + 1) RB (by omega) (by omega) (.slice (some ⟨W5.heap.size, 0, none⟩) f.path.length 0) (.slice none 0 0) (.slice (some ⟨W5.heap.size, 0, none⟩) f.path.length 0) (.string f.id) (.string f.title) (.string f.link) (.int .i64 f.upd) (.slice none 0 0))
          rw [hl0] at HNF HBF
          clear HA5 HQ3 HQ2 HQB HQP x0 H6 R3 R2 RB hpn
          have HL0 := Lib.hid hl0
          clear hl0
          go_wp2_with (at_builtin; refine wpList_append_zero _ rfl (.tmp 27) (.tmp 29) 27 rfl 9 i0 Tryz.underlying27 hi0 W5.heap.size 0 _ hS rfl rfl ?_)
          refine bodyPost_ret (v := .agg #[.slice (some ⟨W5.heap.size, 0, none⟩) 0 0, .string f.id, .string f.title, .string f.link, .int .i64 f.upd, .slice none 0 0]) (by simp [results, Tryz.results16, go_sem, mset_same, m0, m1, m2, m3, m4, m5]) rfl ⟨⟨_, rfl, ⟨some ⟨W5.heap.size, 0, none⟩, 0, none, 0, ?_, HNF.out, fun i hi => absurd hi (Nat.not_lt_zero _)⟩⟩, HBF.out⟩
          rw [show (bareF f).path.length = 0 from HL0.out]
          rfl
        · obtain ⟨ad, rfl, -⟩ := HQP.out 0 (List.length_pos_iff.2 hpn)
          have hpos : 0 < f.path.length := List.length_pos_iff.2 hpn
          have hnews := nam_news (HQP.out.below HA5)
          have hown0 : (W5.alloc (.cells #[] 9)).ownsRow W5.heap.size 9 1 (.slice (some ⟨W5.heap.size, 0, none⟩) 0 0) 0 [] := World.ownsRow_made W5 #[] 0 (Nat.le_refl _) (by decide) rfl
          have HFA := Lib.hid (fun (w6 : World) (hg : (W5.alloc (.cells #[] 9)).grownBy w6 (some W5.heap.size)) => (show MBlk w6 (w.heap.size + 1 + 1 + 1) _ _ ∧ MBlk w6 (w.heap.size + 1 + 1) _ _ ∧ Below w.heap.size w w6 from
            ⟨(hg.block _ (by simp; omega) (fun e => by injection e; omega)).trans (HQ3.out.more HA5), (hg.block _ (by simp; omega) (fun e => by injection e; omega)).trans (HQ2.out.more HA5), (HQB.out.trans (HA5.mono HQB.out.size)).grown hg (by simp; omega) (fun j hj => by injection hj; omega)⟩))
          have y0 := (HQ3.out.more HA5).cell 0
          simp only [List.getElem?_toArray, List.getElem?_cons_zero] at y0
          clear HA5 x0
          go_wp2_with (at_builtin; refine wpList_append_lies _ rfl (.tmp 27) (.tmp 29) 27 rfl W5.heap.size 9 i0 (.string ⟨#[]⟩) 1 16 Tryz.underlying27 hi0 hi1 hi3 hi4 rfl (by decide) (.slice (some ⟨W5.heap.size, 0, none⟩) 0 0) 0 [] rfl hown0 ad f.path.length c1 (f.path.map Value.string) rfl (by rw [List.length_map, Nat.mul_one]) hnews (by intro u hu; obtain ⟨x, -, rfl⟩ := List.mem_map.1 hu; rfl) hpos (by unfold maxLen; omega) (by omega) (by simp) (W5.heap.size + 1) (by simp) ?_; intro gb cap' w6 hown6 hgr6 hat6 hlt6; obtain ⟨R3, R2, RB⟩ := HFA.out w6 hgr6; have hgb : W5.heap.size ≤ gb := (by rcases hat6 with e | e; (have e2 : some W5.heap.size = some gb := e; injection e2 with e2; omega); omega); have hnm : NamAt w6 (some ⟨gb, 0, none⟩) f.path := nam_own hown6; have r0 := R3.cell 0; have t0 := R3.fr 0; have r1 := R3.cell 1; have t1 := R3.fr 1; have r2 := R3.cell 2; have t2 := R3.fr 2; have r3 := R3.cell 3; have t3 := R3.fr 3; have r4 := R3.cell 4; have t4 := R3.fr 4; have r5 := R3.cell 5; have t5 := R3.fr 5; have m0 := R2.cell 0; have n0 := R2.fr 0; have m1 := R2.cell 1; have n1 := R2.fr 1; have m2 := R2.cell 2; have n2 := R2.fr 2; have m3 := R2.cell 3; have n3 := R2.fr 3; have m4 := R2.cell 4; have n4 := R2.fr 4; have m5 := R2.cell 5; have n5 := R2.fr 5; simp only [List.getElem?_toArray, List.getElem?_cons_zero, List.getElem?_cons_succ] at r0 m0 r1 m1 r2 m2 r3 m3 r4 m4 r5 m5; have HNF := Lib.hid (nam_sets (s2 := w.heap.size + 1 + 1) (s3 := w.heap.size + 1 + 1 + 1) hnm (fun a ha => by injection ha with ha; subst ha; constructor <;> (show _ ≠ _; dsimp only; omega)) (.slice (some ⟨gb, 0, none⟩) f.path.length cap') (.slice none 0 0) (.slice (some ⟨gb, 0, none⟩) f.path.length cap') (.string f.id) (.string f.title) (.string f.link) (.int .i64 f.upd) (.slice none 0 0)); have HBF := Lib.hid (below_sets (s2 := w.heap.size + 1 + 1) (s3 := w.heap.size + 1 + 1 + 1) RB (by omega) (by omega) (.slice (some ⟨gb, 0, none⟩) f.path.length cap') (.slice none 0 0) (.slice (some ⟨gb, 0, none⟩) f.path.length cap') (.string f.id) (.string f.title) (.string f.link) (.int .i64 f.upd) (.slice none 0 0)); clear hown6 hgr6 hat6 hlt6 R3 R2 RB hnm y0; try simp only [Nat.zero_add])
          exact bodyPost_ret (v := .agg #[.slice (some ⟨gb, 0, none⟩) f.path.length cap', .string f.id, .string f.title, .string f.link, .int .i64 f.upd, .slice none 0 0]) (by simp [results, Tryz.results16, go_sem, mset_same, m0, m1, m2, m3, m4, m5]) rfl ⟨⟨_, rfl, ⟨_, _, none, 0, rfl, HNF.out, fun i hi => absurd hi (Nat.not_lt_zero _)⟩⟩, HBF.out⟩
      · rw [if_pos rfl]
        go_enter Tryz.func16, Tryz.ntmps16
        go_upto_region 2 with fail
        simp only [← hW4]
        clear hW4
        go_wp2
        have S0 : (W4.drew.cell? ⟨w.heap.size, 0, none⟩ = some (.slice p1 f.path.length c1) ∧ W4.drew.cell? ⟨w.heap.size, 1, none⟩ = some (.string f.id) ∧ W4.drew.cell? ⟨w.heap.size, 2, none⟩ = some (.string f.title) ∧ W4.drew.cell? ⟨w.heap.size, 3, none⟩ = some (.string f.link) ∧ W4.drew.cell? ⟨w.heap.size, 4, none⟩ = some (.int .i64 f.upd) ∧ W4.drew.cell? ⟨w.heap.size, 5, none⟩ = some (.slice q1 f.ents.length d1)) ∧ (W4.drew.cell? ⟨w.heap.size + 1, 0, none⟩ = some (.slice p2 g.path.length c2) ∧ W4.drew.cell? ⟨w.heap.size + 1, 1, none⟩ = some (.string g.id) ∧ W4.drew.cell? ⟨w.heap.size + 1, 2, none⟩ = some (.string g.title) ∧ W4.drew.cell? ⟨w.heap.size + 1, 3, none⟩ = some (.string g.link) ∧ W4.drew.cell? ⟨w.heap.size + 1, 4, none⟩ = some (.int .i64 f.upd) ∧ W4.drew.cell? ⟨w.heap.size + 1, 5, none⟩ = some (.slice q2 g.ents.length d2)) := ⟨⟨e0, e1, e2, e3, e4, e5⟩, ⟨f0, f1, f2, f3, f4, f5⟩⟩
        have hSB : ∀ x1 x2 : World, Below x1.heap.size x1 x2 → ((x1.cell? ⟨w.heap.size, 0, none⟩ = some (.slice p1 f.path.length c1) ∧ x1.cell? ⟨w.heap.size, 1, none⟩ = some (.string f.id) ∧ x1.cell? ⟨w.heap.size, 2, none⟩ = some (.string f.title) ∧ x1.cell? ⟨w.heap.size, 3, none⟩ = some (.string f.link) ∧ x1.cell? ⟨w.heap.size, 4, none⟩ = some (.int .i64 f.upd) ∧ x1.cell? ⟨w.heap.size, 5, none⟩ = some (.slice q1 f.ents.length d1)) ∧ (x1.cell? ⟨w.heap.size + 1, 0, none⟩ = some (.slice p2 g.path.length c2) ∧ x1.cell? ⟨w.heap.size + 1, 1, none⟩ = some (.string g.id) ∧ x1.cell? ⟨w.heap.size + 1, 2, none⟩ = some (.string g.title) ∧ x1.cell? ⟨w.heap.size + 1, 3, none⟩ = some (.string g.link) ∧ x1.cell? ⟨w.heap.size + 1, 4, none⟩ = some (.int .i64 f.upd) ∧ x1.cell? ⟨w.heap.size + 1, 5, none⟩ = some (.slice q2 g.ents.length d2))) → ((x2.cell? ⟨w.heap.size, 0, none⟩ = some (.slice p1 f.path.length c1) ∧ x2.cell? ⟨w.heap.size, 1, none⟩ = some (.string f.id) ∧ x2.cell? ⟨w.heap.size, 2, none⟩ = some (.string f.title) ∧ x2.cell? ⟨w.heap.size, 3, none⟩ = some (.string f.link) ∧ x2.cell? ⟨w.heap.size, 4, none⟩ = some (.int .i64 f.upd) ∧ x2.cell? ⟨w.heap.size, 5, none⟩ = some (.slice q1 f.ents.length d1)) ∧ (x2.cell? ⟨w.heap.size + 1, 0, none⟩ = some (.slice p2 g.path.length c2) ∧ x2.cell? ⟨w.heap.size + 1, 1, none⟩ = some (.string g.id) ∧ x2.cell? ⟨w.heap.size + 1, 2, none⟩ = some (.string g.title) ∧ x2.cell? ⟨w.heap.size + 1, 3, none⟩ = some (.string g.link) ∧ x2.cell? ⟨w.heap.size + 1, 4, none⟩ = some (.int .i64 f.upd) ∧ x2.cell? ⟨w.heap.size + 1, 5, none⟩ = some (.slice q2 g.ents.length d2))) := fun x1 x2 hb h => by
          obtain ⟨⟨z0, z1, z2, z3, z4, z5⟩, ⟨y0, y1, y2, y3, y4, y5⟩⟩ := h
          exact ⟨⟨mcell hb z0, mcell hb z1, mcell hb z2, mcell hb z3, mcell hb z4, mcell hb z5⟩, ⟨mcell hb y0, mcell hb y1, mcell hb y2, mcell hb y3, mcell hb y4, mcell hb y5⟩⟩
        have bd : Below W4.heap.size W4 W4.drew := (Below.refl _ _).drew
        clear e0 e1 e2 e3 e4 e5 f0 f1 f2 f3 f4 f5
        go_region_held3 (fun w' => (w'.cell? ⟨w.heap.size, 0, none⟩ = some (.slice p1 f.path.length c1) ∧ w'.cell? ⟨w.heap.size, 1, none⟩ = some (.string f.id) ∧ w'.cell? ⟨w.heap.size, 2, none⟩ = some (.string f.title) ∧ w'.cell? ⟨w.heap.size, 3, none⟩ = some (.string f.link) ∧ w'.cell? ⟨w.heap.size, 4, none⟩ = some (.int .i64 f.upd) ∧ w'.cell? ⟨w.heap.size, 5, none⟩ = some (.slice q1 f.ents.length d1)) ∧ (w'.cell? ⟨w.heap.size + 1, 0, none⟩ = some (.slice p2 g.path.length c2) ∧ w'.cell? ⟨w.heap.size + 1, 1, none⟩ = some (.string g.id) ∧ w'.cell? ⟨w.heap.size + 1, 2, none⟩ = some (.string g.title) ∧ w'.cell? ⟨w.heap.size + 1, 3, none⟩ = some (.string g.link) ∧ w'.cell? ⟨w.heap.size + 1, 4, none⟩ = some (.int .i64 f.upd) ∧ w'.cell? ⟨w.heap.size + 1, 5, none⟩ = some (.slice q2 g.ents.length d2))) (first | with_reducible exact S0 | with_reducible exact S5 | with_reducible exact S6) (first | (go_at_call 34; with_reducible refine (k1 _ _ (HF1.out _ b45)).mono ?_; rintro e w6 ⟨rfl, b6⟩; have S6 := hSB _ _ b6 S5; have b46 := b45.trans (b6.mono b45.size)) | (go_at_call 34; with_reducible refine (k2 _ _ (HGE.out _ bd)).mono ?_; rintro e w5 ⟨rfl, b5⟩; have S5 := hSB _ _ b5 S0; have b45 := bd.trans (b5.mono bd.size)))
        clear S0 S5 S6 hSB bd b5 b6 b45 k1 k2 hgt HF1 HGE
        have M2q := HM2.out.more b46
        have M3q := HM3.out.more b46
        have X2q := HX2.out.below b46
        have HQB0 := Lib.hid (HB.out.trans (b46.mono HB.out.size))
        have hszq : w.heap.size + 4 ≤ w6.heap.size := by have := b46.size; omega
        clear HM2 HM3 HB HX1 HX2 b46
        generalize w6 = Wq at *
        obtain ⟨f0, f1, f2, f3, f4, f5⟩ := X2q
        rw [← HEQ.out] at f4
        have r0 := M3q.cell 0
        have t0 := M3q.fr 0
        have r1 := M3q.cell 1
        have t1 := M3q.fr 1
        have r2 := M3q.cell 2
        have t2 := M3q.fr 2
        have r3 := M3q.cell 3
        have t3 := M3q.fr 3
        have r4 := M3q.cell 4
        have t4 := M3q.fr 4
        have r5 := M3q.cell 5
        have t5 := M3q.fr 5
        simp only [List.getElem?_toArray, List.getElem?_cons_zero, List.getElem?_cons_succ] at r0 r1 r2 r3 r4 r5
        obtain ⟨W5, hW5⟩ : ∃ W5, W5 = ((((((Wq.setCell ⟨w.heap.size + 1 + 1 + 1, 0, none⟩ (.slice p2 g.path.length c2)).setCell ⟨w.heap.size + 1 + 1 + 1, 1, none⟩ (.string g.id)).setCell ⟨w.heap.size + 1 + 1 + 1, 2, none⟩ (.string g.title)).setCell ⟨w.heap.size + 1 + 1 + 1, 3, none⟩ (.string g.link)).setCell ⟨w.heap.size + 1 + 1 + 1, 4, none⟩ (.int .i64 f.upd)).setCell ⟨w.heap.size + 1 + 1 + 1, 5, none⟩ (.slice q2 g.ents.length d2)) := ⟨_, rfl⟩
        have HQ3 := Lib.hid (show MBlk W5 (w.heap.size + 1 + 1 + 1) #[.slice p2 g.path.length c2, .string g.id, .string g.title, .string g.link, .int .i64 f.upd, .slice q2 g.ents.length d2] 30 by rw [hW5]; exact mblk_set6 M3q (.slice p2 g.path.length c2) (.string g.id) (.string g.title) (.string g.link) (.int .i64 f.upd) (.slice q2 g.ents.length d2))
        have HQ2 := Lib.hid (show MBlk W5 (w.heap.size + 1 + 1) #[.slice none 0 0, .string ⟨#[]⟩, .string ⟨#[]⟩, .string ⟨#[]⟩, .int .i64 0, .slice none 0 0] 30 by
          rw [hW5]
          unfold MBlk
          rw [Below.heap_setCell _ _ _ _ (show w.heap.size + 1 + 1 ≠ w.heap.size + 1 + 1 + 1 by omega), Below.heap_setCell _ _ _ _ (show w.heap.size + 1 + 1 ≠ w.heap.size + 1 + 1 + 1 by omega), Below.heap_setCell _ _ _ _ (show w.heap.size + 1 + 1 ≠ w.heap.size + 1 + 1 + 1 by omega), Below.heap_setCell _ _ _ _ (show w.heap.size + 1 + 1 ≠ w.heap.size + 1 + 1 + 1 by omega), Below.heap_setCell _ _ _ _ (show w.heap.size + 1 + 1 ≠ w.heap.size + 1 + 1 + 1 by omega), Below.heap_setCell _ _ _ _ (show w.heap.size + 1 + 1 ≠ w.heap.size + 1 + 1 + 1 by omega)]
          exact M2q)
        have HQB := Lib.hid (show Below w.heap.size w W5 by rw [hW5]; exact ((((((HQB0.out.setCell (p := ⟨w.heap.size + 1 + 1 + 1, 0, none⟩) (by show _ ≤ w.heap.size + 1 + 1 + 1; omega) _).setCell (p := ⟨w.heap.size + 1 + 1 + 1, 1, none⟩) (by show _ ≤ w.heap.size + 1 + 1 + 1; omega) _).setCell (p := ⟨w.heap.size + 1 + 1 + 1, 2, none⟩) (by show _ ≤ w.heap.size + 1 + 1 + 1; omega) _).setCell (p := ⟨w.heap.size + 1 + 1 + 1, 3, none⟩) (by show _ ≤ w.heap.size + 1 + 1 + 1; omega) _).setCell (p := ⟨w.heap.size + 1 + 1 + 1, 4, none⟩) (by show _ ≤ w.heap.size + 1 + 1 + 1; omega) _).setCell (p := ⟨w.heap.size + 1 + 1 + 1, 5, none⟩) (by show _ ≤ w.heap.size + 1 + 1 + 1; omega) _))
        have HQP := Lib.hid (HP2.out.below HQB.out)
        have hsz : w.heap.size + 4 ≤ W5.heap.size := by rw [hW5]; simp [World.setCell]; omega
        clear M2q M3q HQB0 hszq
        go_upto_region 4 with fail
        simp only [← hW5]
        clear hW5 r0 r1 r2 r3 r4 r5 t0 t1 t2 t3 t4 t5 f0 f1 f2 f3 f4 f5
        have HA5 : Below W5.heap.size W5 (W5.alloc (.cells #[] 9)) := (Below.refl _ _).alloc (Nat.le_refl _) _
        have x0 := HQ3.out.cell 0
        simp only [List.getElem?_toArray, List.getElem?_cons_zero] at x0
        by_cases hpn : g.path = []
        · have hl0 : g.path.length = 0 := by rw [hpn]; rfl
          have hS : Src Tryz.prog i0.size 27 (.slice p2 g.path.length c2) 0 [] (W5.alloc (.cells #[] 9)) := by
            rw [hl0]
            cases p2 with
            | none => exact Src.ofNil _ Tryz.underlying27 _
            | some ad => exact Src.ofSlice _ Tryz.underlying27 ad 0 _ [] (by simp) (fun j u hj => by simp at hj) (fun u hu => by cases hu)
          have H6 : NamAt (W5.alloc (.cells #[] 9)) (some ⟨W5.heap.size, 0, none⟩) g.path := fun i hi => absurd hi (by omega)
          have R3 := HQ3.out.more HA5
          have R2 := HQ2.out.more HA5
          have RB := HQB.out.trans (HA5.mono HQB.out.size)
          have r0 := R3.cell 0
          have t0 := R3.fr 0
          have r1 := R3.cell 1
          have t1 := R3.fr 1
          have r2 := R3.cell 2
          have t2 := R3.fr 2
          have r3 := R3.cell 3
          have t3 := R3.fr 3
          have r4 := R3.cell 4
          have t4 := R3.fr 4
          have r5 := R3.cell 5
          have t5 := R3.fr 5
          have m0 := R2.cell 0
          have n0 := R2.fr 0
          have m1 := R2.cell 1
          have n1 := R2.fr 1
          have m2 := R2.cell 2
          have n2 := R2.fr 2
          have m3 := R2.cell 3
          have n3 := R2.fr 3
          have m4 := R2.cell 4
          have n4 := R2.fr 4
          have m5 := R2.cell 5
          have n5 := R2.fr 5
          simp only [List.getElem?_toArray, List.getElem?_cons_zero, List.getElem?_cons_succ] at r0 m0 r1 m1 r2 m2 r3 m3 r4 m4 r5 m5
          have HNF := Lib.hid (nam_sets (s2 := w.heap.size + 1 + 1) (s3 := w.heap.size + 1 + 1 + 1) H6 (fun a ha => by injection ha with ha; subst ha; constructor <;> (show _ ≠ _; dsimp only; omega)) (.slice (some ⟨W5.heap.size, 0, none⟩) g.path.length 0) (.slice none 0 0) (.slice (some ⟨W5.heap.size, 0, none⟩) g.path.length 0) (.string g.id) (.string g.title) (.string g.link) (.int .i64 f.upd) (.slice none 0 0))
          have HBF := Lib.hid (below_sets (s2 := w.heap.size + 1 + 1) (s3 := w.heap.size + 1 + 1 + 1) RB (by omega) (by omega) (.slice (some ⟨W5.heap.size, 0, none⟩) g.path.length 0) (.slice none 0 0) (.slice (some ⟨W5.heap.size, 0, none⟩) g.path.length 0) (.string g.id) (.string g.title) (.string g.link) (.int .i64 f.upd) (.slice none 0 0))
          rw [hl0] at HNF HBF
          clear HA5 HQ3 HQ2 HQB HQP x0 H6 R3 R2 RB hpn
          have HL0 := Lib.hid hl0
          clear hl0
          go_wp2_with (at_builtin; refine wpList_append_zero _ rfl (.tmp 27) (.tmp 29) 27 rfl 9 i0 Tryz.underlying27 hi0 W5.heap.size 0 _ hS rfl rfl ?_)
          refine bodyPost_ret (v := .agg #[.slice (some ⟨W5.heap.size, 0, none⟩) 0 0, .string g.id, .string g.title, .string g.link, .int .i64 f.upd, .slice none 0 0]) (by simp [results, Tryz.results16, go_sem, mset_same, m0, m1, m2, m3, m4, m5]) rfl ⟨⟨_, rfl, ⟨some ⟨W5.heap.size, 0, none⟩, 0, none, 0, ?_, HNF.out, fun i hi => absurd hi (Nat.not_lt_zero _)⟩⟩, HBF.out⟩
          rw [show (bareF g).path.length = 0 from HL0.out]
          rw [show (bareF g).upd = f.upd from HEQ.out.symm]
          rfl
        · obtain ⟨ad, rfl, -⟩ := HQP.out 0 (List.length_pos_iff.2 hpn)
          have hpos : 0 < g.path.length := List.length_pos_iff.2 hpn
          have hnews := nam_news (HQP.out.below HA5)
          have hown0 : (W5.alloc (.cells #[] 9)).ownsRow W5.heap.size 9 1 (.slice (some ⟨W5.heap.size, 0, none⟩) 0 0) 0 [] := World.ownsRow_made W5 #[] 0 (Nat.le_refl _) (by decide) rfl
          have HFA := Lib.hid (fun (w6 : World) (hg : (W5.alloc (.cells #[] 9)).grownBy w6 (some W5.heap.size)) => (show MBlk w6 (w.heap.size + 1 + 1 + 1) _ _ ∧ MBlk w6 (w.heap.size + 1 + 1) _ _ ∧ Below w.heap.size w w6 from
            ⟨(hg.block _ (by simp; omega) (fun e => by injection e; omega)).trans (HQ3.out.more HA5), (hg.block _ (by simp; omega) (fun e => by injection e; omega)).trans (HQ2.out.more HA5), (HQB.out.trans (HA5.mono HQB.out.size)).grown hg (by simp; omega) (fun j hj => by injection hj; omega)⟩))
          have y0 := (HQ3.out.more HA5).cell 0
          simp only [List.getElem?_toArray, List.getElem?_cons_zero] at y0
          clear HA5 x0
          go_wp2_with (at_builtin; refine wpList_append_lies _ rfl (.tmp 27) (.tmp 29) 27 rfl W5.heap.size 9 i0 (.string ⟨#[]⟩) 1 16 Tryz.underlying27 hi0 hi1 hi3 hi4 rfl (by decide) (.slice (some ⟨W5.heap.size, 0, none⟩) 0 0) 0 [] rfl hown0 ad g.path.length c2 (g.path.map Value.string) rfl (by rw [List.length_map, Nat.mul_one]) hnews (by intro u hu; obtain ⟨x, -, rfl⟩ := List.mem_map.1 hu; rfl) hpos (by unfold maxLen; omega) (by omega) (by simp) (W5.heap.size + 1) (by simp) ?_; intro gb cap' w6 hown6 hgr6 hat6 hlt6; obtain ⟨R3, R2, RB⟩ := HFA.out w6 hgr6; have hgb : W5.heap.size ≤ gb := (by rcases hat6 with e | e; (have e2 : some W5.heap.size = some gb := e; injection e2 with e2; omega); omega); have hnm : NamAt w6 (some ⟨gb, 0, none⟩) g.path := nam_own hown6; have r0 := R3.cell 0; have t0 := R3.fr 0; have r1 := R3.cell 1; have t1 := R3.fr 1; have r2 := R3.cell 2; have t2 := R3.fr 2; have r3 := R3.cell 3; have t3 := R3.fr 3; have r4 := R3.cell 4; have t4 := R3.fr 4; have r5 := R3.cell 5; have t5 := R3.fr 5; have m0 := R2.cell 0; have n0 := R2.fr 0; have m1 := R2.cell 1; have n1 := R2.fr 1; have m2 := R2.cell 2; have n2 := R2.fr 2; have m3 := R2.cell 3; have n3 := R2.fr 3; have m4 := R2.cell 4; have n4 := R2.fr 4; have m5 := R2.cell 5; have n5 := R2.fr 5; simp only [List.getElem?_toArray, List.getElem?_cons_zero, List.getElem?_cons_succ] at r0 m0 r1 m1 r2 m2 r3 m3 r4 m4 r5 m5; have HNF := Lib.hid (nam_sets (s2 := w.heap.size + 1 + 1) (s3 := w.heap.size + 1 + 1 + 1) hnm (fun a ha => by injection ha with ha; subst ha; constructor <;> (show _ ≠ _; dsimp only; omega)) (.slice (some ⟨gb, 0, none⟩) g.path.length cap') (.slice none 0 0) (.slice (some ⟨gb, 0, none⟩) g.path.length cap') (.string g.id) (.string g.title) (.string g.link) (.int .i64 f.upd) (.slice none 0 0)); have HBF := Lib.hid (below_sets (s2 := w.heap.size + 1 + 1) (s3 := w.heap.size + 1 + 1 + 1) RB (by omega) (by omega) (.slice (some ⟨gb, 0, none⟩) g.path.length cap') (.slice none 0 0) (.slice (some ⟨gb, 0, none⟩) g.path.length cap') (.string g.id) (.string g.title) (.string g.link) (.int .i64 f.upd) (.slice none 0 0)); clear hown6 hgr6 hat6 hlt6 R3 R2 RB hnm y0; try simp only [Nat.zero_add])
          exact bodyPost_ret (v := .agg #[.slice (some ⟨gb, 0, none⟩) g.path.length cap', .string g.id, .string g.title, .string g.link, .int .i64 f.upd, .slice none 0 0]) (by simp [results, Tryz.results16, go_sem, mset_same, m0, m1, m2, m3, m4, m5]) rfl ⟨⟨_, rfl, ⟨_, _, none, 0, (by rw [show (bareF g).upd = f.upd from HEQ.out.symm]; rfl), HNF.out, fun i hi => absurd hi (Nat.not_lt_zero _)⟩⟩, HBF.out⟩
    · rw [decide_eq_false heq, Bool.false_and, if_neg (by simp)]
      have heq2 : ¬ g.upd = f.upd := fun e => heq e.symm
      clear k1 k2 hgt HF1 HG1
      go_enter Tryz.func16, Tryz.ntmps16
      go_upto_region 2 with fail
      simp only [← hW4]
      clear hW4
      go_wp2
      go_quiet (fail)
      have hbq : Below W4.heap.size W4 (W4.drewN nq) := mdrewN (Below.refl _ _) nq
      have HQ2 := Lib.hid (HM2.out.more hbq)
      have HQ3 := Lib.hid (HM3.out.more hbq)
      have HQB := Lib.hid (HB.out.trans (hbq.mono HB.out.size))
      have HQP := Lib.hid (HP1.out.below HQB.out)
      have hsz : w.heap.size + 4 ≤ (W4.drewN nq).heap.size := by have := hbq.size; omega
      clear e0 e1 e2 e3 e4 e5 f0 f1 f2 f3 f4 f5 HM2 HM3 HP1 HP2 HB HX1 HX2 hbq
      generalize W4.drewN nq = W5 at *
      have HA5 : Below W5.heap.size W5 (W5.alloc (.cells #[] 9)) := (Below.refl _ _).alloc (Nat.le_refl _) _
      have x0 := HQ3.out.cell 0
      simp only [List.getElem?_toArray, List.getElem?_cons_zero] at x0
      by_cases hpn : f.path = []
      · have hl0 : f.path.length = 0 := by rw [hpn]; rfl
        have hS : Src Tryz.prog i0.size 27 (.slice p1 f.path.length c1) 0 [] (W5.alloc (.cells #[] 9)) := by
          rw [hl0]
          cases p1 with
          | none => exact Src.ofNil _ Tryz.underlying27 _
          | some ad => exact Src.ofSlice _ Tryz.underlying27 ad 0 _ [] (by simp) (fun j u hj => by simp at hj) (fun u hu => by cases hu)
        have H6 : NamAt (W5.alloc (.cells #[] 9)) (some ⟨W5.heap.size, 0, none⟩) f.path := fun i hi => absurd hi (by omega)
        have R3 := HQ3.out.more HA5
        have R2 := HQ2.out.more HA5
        have RB := HQB.out.trans (HA5.mono HQB.out.size)
        have r0 := R3.cell 0
        have t0 := R3.fr 0
        have r1 := R3.cell 1
        have t1 := R3.fr 1
        have r2 := R3.cell 2
        have t2 := R3.fr 2
        have r3 := R3.cell 3
        have t3 := R3.fr 3
        have r4 := R3.cell 4
        have t4 := R3.fr 4
        have r5 := R3.cell 5
        have t5 := R3.fr 5
        have m0 := R2.cell 0
        have n0 := R2.fr 0
        have m1 := R2.cell 1
        have n1 := R2.fr 1
        have m2 := R2.cell 2
        have n2 := R2.fr 2
        have m3 := R2.cell 3
        have n3 := R2.fr 3
        have m4 := R2.cell 4
        have n4 := R2.fr 4
        have m5 := R2.cell 5
        have n5 := R2.fr 5
        simp only [List.getElem?_toArray, List.getElem?_cons_zero, List.getElem?_cons_succ] at r0 m0 r1 m1 r2 m2 r3 m3 r4 m4 r5 m5
        have HNF := Lib.hid (nam_sets (s2 := w.heap.size + 1 + 1) (s3 := w.heap.size + 1 + 1 + 1) H6 (fun a ha => by injection ha with ha; subst ha; constructor <;> (show _ ≠ _; dsimp only; omega)) (.slice (some ⟨W5.heap.size, 0, none⟩) f.path.length 0) (.slice none 0 0) (.slice (some ⟨W5.heap.size, 0, none⟩) f.path.length 0) (.string f.id) (.string f.title) (.string f.link) (.int .i64 f.upd) (.slice none 0 0))
        have HBF := Lib.hid (below_sets (s2 := w.heap.size + 1 + 1) (s3 := w.heap.size + 1 + 1 + 1) RB (by omega) (by omega) (.slice (some ⟨W5.heap.size, 0, none⟩) f.path.length 0) (.slice none 0 0) (.slice (some ⟨W5.heap.size, 0, none⟩) f.path.length 0) (.string f.id) (.string f.title) (.string f.link) (.int .i64 f.upd) (.slice none 0 0))
        rw [hl0] at HNF HBF
        clear HA5 HQ3 HQ2 HQB HQP x0 H6 R3 R2 RB hpn
        have HL0 := Lib.hid hl0
        clear hl0
        go_wp2_with (at_builtin; refine wpList_append_zero _ rfl (.tmp 27) (.tmp 29) 27 rfl 9 i0 Tryz.underlying27 hi0 W5.heap.size 0 _ hS rfl rfl ?_)
        refine bodyPost_ret (v := .agg #[.slice (some ⟨W5.heap.size, 0, none⟩) 0 0, .string f.id, .string f.title, .string f.link, .int .i64 f.upd, .slice none 0 0]) (by simp [results, Tryz.results16, go_sem, mset_same, m0, m1, m2, m3, m4, m5]) rfl ⟨⟨_, rfl, ⟨some ⟨W5.heap.size, 0, none⟩, 0, none, 0, ?_, HNF.out, fun i hi => absurd hi (Nat.not_lt_zero _)⟩⟩, HBF.out⟩
        rw [show (bareF f).path.length = 0 from HL0.out]
        rfl
      · obtain ⟨ad, rfl, -⟩ := HQP.out 0 (List.length_pos_iff.2 hpn)
        have hpos : 0 < f.path.length := List.length_pos_iff.2 hpn
        have hnews := nam_news (HQP.out.below HA5)
        have hown0 : (W5.alloc (.cells #[] 9)).ownsRow W5.heap.size 9 1 (.slice (some ⟨W5.heap.size, 0, none⟩) 0 0) 0 [] := World.ownsRow_made W5 #[] 0 (Nat.le_refl _) (by decide) rfl
        have HFA := Lib.hid (fun (w6 : World) (hg : (W5.alloc (.cells #[] 9)).grownBy w6 (some W5.heap.size)) => (show MBlk w6 (w.heap.size + 1 + 1 + 1) _ _ ∧ MBlk w6 (w.heap.size + 1 + 1) _ _ ∧ Below w.heap.size w w6 from
          ⟨(hg.block _ (by simp; omega) (fun e => by injection e; omega)).trans (HQ3.out.more HA5), (hg.block _ (by simp; omega) (fun e => by injection e; omega)).trans (HQ2.out.more HA5), (HQB.out.trans (HA5.mono HQB.out.size)).grown hg (by simp; omega) (fun j hj => by injection hj; omega)⟩))
        have y0 := (HQ3.out.more HA5).cell 0
        simp only [List.getElem?_toArray, List.getElem?_cons_zero] at y0
        clear HA5 x0
        go_wp2_with (at_builtin; refine wpList_append_lies _ rfl (.tmp 27) (.tmp 29) 27 rfl W5.heap.size 9 i0 (.string ⟨#[]⟩) 1 16 Tryz.underlying27 hi0 hi1 hi3 hi4 rfl (by decide) (.slice (some ⟨W5.heap.size, 0, none⟩) 0 0) 0 [] rfl hown0 ad f.path.length c1 (f.path.map Value.string) rfl (by rw [List.length_map, Nat.mul_one]) hnews (by intro u hu; obtain ⟨x, -, rfl⟩ := List.mem_map.1 hu; rfl) hpos (by unfold maxLen; omega) (by omega) (by simp) (W5.heap.size + 1) (by simp) ?_; intro gb cap' w6 hown6 hgr6 hat6 hlt6; obtain ⟨R3, R2, RB⟩ := HFA.out w6 hgr6; have hgb : W5.heap.size ≤ gb := (by rcases hat6 with e | e; (have e2 : some W5.heap.size = some gb := e; injection e2 with e2; omega); omega); have hnm : NamAt w6 (some ⟨gb, 0, none⟩) f.path := nam_own hown6; have r0 := R3.cell 0; have t0 := R3.fr 0; have r1 := R3.cell 1; have t1 := R3.fr 1; have r2 := R3.cell 2; have t2 := R3.fr 2; have r3 := R3.cell 3; have t3 := R3.fr 3; have r4 := R3.cell 4; have t4 := R3.fr 4; have r5 := R3.cell 5; have t5 := R3.fr 5; have m0 := R2.cell 0; have n0 := R2.fr 0; have m1 := R2.cell 1; have n1 := R2.fr 1; have m2 := R2.cell 2; have n2 := R2.fr 2; have m3 := R2.cell 3; have n3 := R2.fr 3; have m4 := R2.cell 4; have n4 := R2.fr 4; have m5 := R2.cell 5; have n5 := R2.fr 5; simp only [List.getElem?_toArray, List.getElem?_cons_zero, List.getElem?_cons_succ] at r0 m0 r1 m1 r2 m2 r3 m3 r4 m4 r5 m5; have HNF := Lib.hid (nam_sets (s2 := w.heap.size + 1 + 1) (s3 := w.heap.size + 1 + 1 + 1) hnm (fun a ha => by injection ha with ha; subst ha; constructor <;> (show _ ≠ _; dsimp only; omega)) (.slice (some ⟨gb, 0, none⟩) f.path.length cap') (.slice none 0 0) (.slice (some ⟨gb, 0, none⟩) f.path.length cap') (.string f.id) (.string f.title) (.string f.link) (.int .i64 f.upd) (.slice none 0 0)); have HBF := Lib.hid (below_sets (s2 := w.heap.size + 1 + 1) (s3 := w.heap.size + 1 + 1 + 1) RB (by omega) (by omega) (.slice (some ⟨gb, 0, none⟩) f.path.length cap') (.slice none 0 0) (.slice (some ⟨gb, 0, none⟩) f.path.length cap') (.string f.id) (.string f.title) (.string f.link) (.int .i64 f.upd) (.slice none 0 0)); clear hown6 hgr6 hat6 hlt6 R3 R2 RB hnm y0; try simp only [Nat.zero_add])
        exact bodyPost_ret (v := .agg #[.slice (some ⟨gb, 0, none⟩) f.path.length cap', .string f.id, .string f.title, .string f.link, .int .i64 f.upd, .slice none 0 0]) (by simp [results, Tryz.results16, go_sem, mset_same, m0, m1, m2, m3, m4, m5]) rfl ⟨⟨_, rfl, ⟨_, _, none, 0, rfl, HNF.out, fun i hi => absurd hi (Nat.not_lt_zero _)⟩⟩, HBF.out⟩
end Go.Proofs.YtggfblodjanfkaaGreatDoor
end
