/- Packed from the texts MdE MdF MdK. -/
import Derived.Test.YtbfalppeifkjdaaGreatDoorXk5
import Derived.Laws.StructEq
section
namespace Go.Proofs.YtbfalppeifkjdaaGreatDoor
open Go.RowKit
def eqE (a b : EntD) : Bool := (a.id.toList == b.id.toList) && ((a.title.toList == b.title.toList) && ((a.link.toList == b.link.toList) && ((a.content.toList == b.content.toList) && (a.upd == b.upd))))
theorem mlist_five {α : Type} {l : List α} (h : l.length = 5) : ∃ a b c d e, l = [a, b, c, d, e] := by
  match l, h with
  | [a, b, c, d, e], _ => exact ⟨a, b, c, d, e, rfl⟩
theorem ment_fields : ∃ f0 f1 f2 f3 f4 : Field, (Tryz.prog.fieldsOf 23).toList = [f0, f1, f2, f3, f4] ∧ [f0.type, f1.type, f2.type, f3.type, f4.type] = [9, 9, 9, 9, 2] ∧ [f0.offset, f1.offset, f2.offset, f3.offset, f4.offset] = [0, 1, 2, 3, 4] ∧ (f0.name ≠ "_" ∧ f1.name ≠ "_" ∧ f2.name ≠ "_" ∧ f3.name ≠ "_" ∧ f4.name ≠ "_") := by
  have hT : (Tryz.prog.fieldsOf 23).toList.map Field.type = [9, 9, 9, 9, 2] := by kernel_rfl
  have hO : (Tryz.prog.fieldsOf 23).toList.map Field.offset = [0, 1, 2, 3, 4] := by kernel_rfl
  have hN : (Tryz.prog.fieldsOf 23).toList.map (fun f => f.name != "_") = [true, true, true, true, true] := by kernel_rfl
  generalize (Tryz.prog.fieldsOf 23).toList = l at hT hO hN ⊢
  have hl : l.length = 5 := by
    have := congrArg List.length hO
    simpa using this
  obtain ⟨f0, f1, f2, f3, f4, rfl⟩ := mlist_five hl
  simp only [List.map_cons, List.map_nil, List.cons.injEq, and_true, bne_iff_ne] at hN
  exact ⟨f0, f1, f2, f3, f4, rfl, hT, hO, hN⟩
theorem ment_part (v0 v1 v2 v3 v4 : Value) (w : World) : (part 9 #[v0, v1, v2, v3, v4] 0).run Tryz.prog w = .ok v0 w ∧ (part 9 #[v0, v1, v2, v3, v4] 1).run Tryz.prog w = .ok v1 w ∧ (part 9 #[v0, v1, v2, v3, v4] 2).run Tryz.prog w = .ok v2 w ∧ (part 9 #[v0, v1, v2, v3, v4] 3).run Tryz.prog w = .ok v3 w ∧ (part 2 #[v0, v1, v2, v3, v4] 4).run Tryz.prog w = .ok v4 w := ⟨by kernel_rfl, by kernel_rfl, by kernel_rfl, by kernel_rfl, by kernel_rfl⟩
theorem ment_equal (d : Nat) (a b : EntD) (w : World) : (Op.equalIn (d + 2) 23 (EntV a) (EntV b)).run Tryz.prog w = .ok (eqE a b) w := by
  obtain ⟨f0, f1, f2, f3, f4, hF, hT, hO, n0, n1, n2, n3, n4⟩ := ment_fields
  simp only [List.cons.injEq, and_true] at hT hO
  obtain ⟨t0, t1, t2, t3, t4⟩ := hT
  obtain ⟨o0, o1, o2, o3, o4⟩ := hO
  unfold EntV
  rw [run_equalIn_struct w (d + 1) _ _ _ (by kernel_rfl) (by kernel_rfl), hF]
  obtain ⟨a0, a1, a2, a3, a4⟩ := ment_part (.string a.id) (.string a.title) (.string a.link) (.string a.content) (.int .i64 a.upd) w
  obtain ⟨b0, b1, b2, b3, b4⟩ := ment_part (.string b.id) (.string b.title) (.string b.link) (.string b.content) (.int .i64 b.upd) w
  have hs : ∀ x y : ByteArray, (Op.equalIn (d + 1) 9 (.string x) (.string y)).run Tryz.prog w = .ok (x.toList == y.toList) w := fun x y => run_equalIn_string w d _ x y Tryz.underlying9
  have hi : ∀ x y : Int, (Op.equalIn (d + 1) 2 (.int .i64 x) (.int .i64 y)).run Tryz.prog w = .ok (x == y) w := fun x y => run_equalIn_int w d _ .i64 .i64 x y Tryz.underlying2
  simp only [Op.eqFields, if_pos n0, if_pos n1, if_pos n2, if_pos n3, if_pos n4, t0, t1, t2, t3, t4, o0, o1, o2, o3, o4, Sem.run_bind, a0, a1, a2, a3, a4, b0, b1, b2, b3, b4, Result.andThen_ok, hs, hi, Sem.run_ite, Sem.run_pure, eqE]
  generalize (a.id.toList == b.id.toList) = x0
  generalize (a.title.toList == b.title.toList) = x1
  generalize (a.link.toList == b.link.toList) = x2
  generalize (a.content.toList == b.content.toList) = x3
  generalize (a.upd == b.upd) = x4
  cases x0 <;> cases x1 <;> cases x2 <;> cases x3 <;> cases x4 <;> rfl
theorem ment_neq (a b : EntD) (w : World) : (binOp .neq 23 (EntV a) (EntV b)).run Tryz.prog w = .ok (.bool (!eqE a b)) w := by
  have h := ment_equal 9998 a b w
  unfold EntV at h ⊢
  rw [run_neq_struct, h]
  rfl
theorem eqE_iff (a b : EntD) : eqE a b = true ↔ a = b := by
  have hs : ∀ x y : ByteArray, (x.toList == y.toList) = true ↔ x = y := fun x y => by
    rw [beq_iff_eq, ByteArray.toList_eq, ByteArray.toList_eq]
    exact ⟨fun h => ByteArray.ext (Array.ext' h), fun h => by rw [h]⟩
  unfold eqE
  rw [Bool.and_eq_true, Bool.and_eq_true, Bool.and_eq_true, Bool.and_eq_true, hs, hs, hs, hs, beq_iff_eq]
  cases a
  cases b
  simp
end Go.Proofs.YtbfalppeifkjdaaGreatDoor
end
section
namespace Go.Proofs.YtbfalppeifkjdaaGreatDoor
open Go.RowKit
def eqEs : List EntD → List EntD → Bool
  | [], _ => true
  | _ :: _, [] => true
  | a :: l, b :: m => eqE a b && eqEs l m
def sameB (f g : FeedD) : Bool := decide (cmpP f.path g.path = 0) && ((f.id.toList == g.id.toList) && ((f.title.toList == g.title.toList) && ((f.link.toList == g.link.toList) && ((f.upd == g.upd) && (decide (f.ents.length = g.ents.length) && eqEs f.ents g.ents)))))
theorem eqEs_iff : ∀ l m : List EntD, l.length = m.length → (eqEs l m = true ↔ l = m)
  | [], [], _ => by simp [eqEs]
  | a :: l, b :: m, h => by
    rw [eqEs, Bool.and_eq_true, eqE_iff, eqEs_iff l m (by simpa using h)]
    simp
theorem sameB_iff (f g : FeedD) : sameB f g = true ↔ f = g := by
  have hs : ∀ x y : ByteArray, (x.toList == y.toList) = true ↔ x = y := fun x y => by
    rw [beq_iff_eq, ByteArray.toList_eq, ByteArray.toList_eq]
    exact ⟨fun h => ByteArray.ext (Array.ext' h), fun h => by rw [h]⟩
  unfold sameB
  rw [Bool.and_eq_true, Bool.and_eq_true, Bool.and_eq_true, Bool.and_eq_true, Bool.and_eq_true, Bool.and_eq_true, hs, hs, hs, beq_iff_eq, decide_eq_true_iff, decide_eq_true_iff, cmpP_zero]
  obtain ⟨f1, f2, f3, f4, f5, f6⟩ := f
  obtain ⟨g1, g2, g3, g4, g5, g6⟩ := g
  simp only [FeedD.mk.injEq]
  constructor
  · rintro ⟨h1, h2, h3, h4, h5, h6, h7⟩
    exact ⟨h1, h2, h3, h4, h5, (eqEs_iff _ _ h6).1 h7⟩
  · rintro ⟨h1, h2, h3, h4, h5, rfl⟩
    exact ⟨h1, h2, h3, h4, h5, rfl, (eqEs_iff _ _ rfl).2 rfl⟩
def FBox (w : World) (b : Nat) (f : FeedD) (p : Option Addr) (c : Nat) (q : Option Addr) (d : Nat) : Prop := w.cell? ⟨b, 0, none⟩ = some (.slice p f.path.length c) ∧ w.cell? ⟨b, 1, none⟩ = some (.string f.id) ∧ w.cell? ⟨b, 2, none⟩ = some (.string f.title) ∧ w.cell? ⟨b, 3, none⟩ = some (.string f.link) ∧ w.cell? ⟨b, 4, none⟩ = some (.int .i64 f.upd) ∧ w.cell? ⟨b, 5, none⟩ = some (.slice q f.ents.length d)
theorem FBox.below {w w' : World} {b : Nat} {f : FeedD} {p : Option Addr} {c : Nat} {q : Option Addr} {d : Nat} (h : FBox w b f p c q d) (hb : Below w.heap.size w w') : FBox w' b f p c q d := ⟨mcell hb h.1, mcell hb h.2.1, mcell hb h.2.2.1, mcell hb h.2.2.2.1, mcell hb h.2.2.2.2.1, mcell hb h.2.2.2.2.2⟩
theorem FBox.new (w : World) (f : FeedD) (p1 : Option Addr) (c1 : Nat) (q1 : Option Addr) (d1 : Nat) : FBox (w.alloc (.cells #[.slice p1 f.path.length c1, .string f.id, .string f.title, .string f.link, .int .i64 f.upd, .slice q1 f.ents.length d1] 35)) w.heap.size f p1 c1 q1 d1 :=
  have h := heap_alloc_new w (.cells #[.slice p1 f.path.length c1, .string f.id, .string f.title, .string f.link, .int .i64 f.upd, .slice q1 f.ents.length d1] 35)
  ⟨cell_of_row _ _ 0 _ _ _ h, cell_of_row _ _ 1 _ _ _ h, cell_of_row _ _ 2 _ _ _ h, cell_of_row _ _ 3 _ _ _ h, cell_of_row _ _ 4 _ _ _ h, cell_of_row _ _ 5 _ _ _ h⟩
theorem FBox.both (w : World) (f g : FeedD) (p1 : Option Addr) (c1 : Nat) (q1 : Option Addr) (d1 : Nat) (p2 : Option Addr) (c2 : Nat) (q2 : Option Addr) (d2 : Nat) : FBox ((w.alloc (.cells #[.slice p1 f.path.length c1, .string f.id, .string f.title, .string f.link, .int .i64 f.upd, .slice q1 f.ents.length d1] 35)).alloc (.cells #[.slice p2 g.path.length c2, .string g.id, .string g.title, .string g.link, .int .i64 g.upd, .slice q2 g.ents.length d2] 35)) w.heap.size f p1 c1 q1 d1 ∧ FBox ((w.alloc (.cells #[.slice p1 f.path.length c1, .string f.id, .string f.title, .string f.link, .int .i64 f.upd, .slice q1 f.ents.length d1] 35)).alloc (.cells #[.slice p2 g.path.length c2, .string g.id, .string g.title, .string g.link, .int .i64 g.upd, .slice q2 g.ents.length d2] 35)) (w.heap.size + 1) g p2 c2 q2 d2 := by
  refine ⟨(FBox.new w f p1 c1 q1 d1).below ((Below.refl _ _).alloc (Nat.le_refl _) _), ?_⟩
  have := FBox.new (w.alloc (.cells #[.slice p1 f.path.length c1, .string f.id, .string f.title, .string f.link, .int .i64 f.upd, .slice q1 f.ents.length d1] 35)) g p2 c2 q2 d2
  rw [World.size_alloc] at this
  exact this
theorem mretB {a b : Bool} (h : a = b) : Ending.returned (.bool a) = .returned (.bool b) := by rw [h]
set_option maxRecDepth 100000 in
set_option maxHeartbeats 4000000 in
theorem mref_Same (f g : FeedD) (v u : Value) (w : World) (hf : FeedIs w f v) (hg : FeedIs w g u) (h1 : f.path.length ≤ 100000000) (h2 : g.path.length ≤ 100000000) (h3 : f.ents.length ≤ 100000000) : Calls Tryz.prog 17 #[v, u] w fun e w' => e = .returned (.bool (sameB f g)) ∧ Below w.heap.size w w' := by
  obtain ⟨p1, c1, q1, d1, rfl, hp1, he1⟩ := hf
  obtain ⟨p2, c2, q2, d2, rfl, hp2, he2⟩ := hg
  obtain ⟨W2, hW2⟩ : ∃ W2, W2 = (w.alloc (.cells #[.slice p1 f.path.length c1, .string f.id, .string f.title, .string f.link, .int .i64 f.upd, .slice q1 f.ents.length d1] 35)).alloc (.cells #[.slice p2 g.path.length c2, .string g.id, .string g.title, .string g.link, .int .i64 g.upd, .slice q2 g.ents.length d2] 35) := ⟨_, rfl⟩
  have b2 : Below w.heap.size w W2 := by rw [hW2]; exact ((Below.refl _ _).alloc (Nat.le_refl _) _).alloc (by simp) _
  obtain ⟨X1, X2⟩ : FBox W2 w.heap.size f p1 c1 q1 d1 ∧ FBox W2 (w.heap.size + 1) g p2 c2 q2 d2 := by rw [hW2]; exact FBox.both w f g p1 c1 q1 d1 p2 c2 q2 d2
  have cP := mref_paths f.path g.path p1 c1 p2 c2 W2 (hp1.below b2) (hp2.below b2) h1 h2
  have HE1 := Lib.hid (he1.below b2)
  have HE2 := Lib.hid (he2.below b2)
  have HB := Lib.hid b2
  obtain ⟨e0, e1, e2, e3, e4, e5⟩ := id X1
  obtain ⟨f0, f1, f2, f3, f4, f5⟩ := id X2
  have HX1 := Lib.hid X1
  have HX2 := Lib.hid X2
  have h3z : (f.ents.length : Int) ≤ 100000000 := by omega
  obtain ⟨R, hR⟩ : ∃ R, sameB f g = R := ⟨_, rfl⟩
  rw [hR]
  unfold sameB at hR
  generalize cmpP f.path g.path = RP at *
  obtain ⟨x1, y1⟩ : ∃ x, (f.id.toList == g.id.toList) = x := ⟨_, rfl⟩
  obtain ⟨x2, y2⟩ : ∃ x, (f.title.toList == g.title.toList) = x := ⟨_, rfl⟩
  obtain ⟨x3, y3⟩ : ∃ x, (f.link.toList == g.link.toList) = x := ⟨_, rfl⟩
  rw [y1, y2, y3] at hR
  have HR := Lib.hid hR
  clear hR hp1 hp2 he1 he2 b2 X1 X2
  go_enter Tryz.func17, Tryz.ntmps17
  go_upto_region 1 with fail
  simp only [← hW2]
  clear hW2
  go_wp2_with fail
  refine cP.mono ?_
  rintro e w3 ⟨rfl, b3⟩
  replace HX1 := Lib.hid (HX1.out.below b3)
  replace HX2 := Lib.hid (HX2.out.below b3)
  replace HE1 := Lib.hid (HE1.out.below b3)
  replace HE2 := Lib.hid (HE2.out.below b3)
  replace HB := Lib.hid (HB.out.trans (b3.mono HB.out.size))
  clear e0 e1 e2 e3 e4 e5 f0 f1 f2 f3 f4 f5 b3 cP
  obtain ⟨e0, e1, e2, e3, e4, e5⟩ := id HX1.out
  obtain ⟨f0, f1, f2, f3, f4, f5⟩ := id HX2.out
  by_cases hRP : RP = 0
  · subst hRP
    clear HX1 HX2
    cases x1
    · have n1 : ¬ f.id.toList = g.id.toList := beq_eq_false_iff_ne.1 y1
      go_wp2
      go_ret
      exact ⟨mretB (by rw [← HR.out]; simp), HB.out⟩
    have m1 : f.id.toList = g.id.toList := eq_of_beq y1
    cases x2
    · have n2 : ¬ f.title.toList = g.title.toList := beq_eq_false_iff_ne.1 y2
      go_wp2
      go_ret
      exact ⟨mretB (by rw [← HR.out]; simp), HB.out⟩
    have m2 : f.title.toList = g.title.toList := eq_of_beq y2
    cases x3
    · have n3 : ¬ f.link.toList = g.link.toList := beq_eq_false_iff_ne.1 y3
      go_wp2
      go_ret
      exact ⟨mretB (by rw [← HR.out]; simp), HB.out⟩
    have m3 : f.link.toList = g.link.toList := eq_of_beq y3
    by_cases hu : f.upd = g.upd
    case neg =>
      go_wp2
      go_ret
      exact ⟨mretB (by rw [← HR.out]; simp [beq_eq_false_iff_ne.2 hu]), HB.out⟩
    by_cases hn : f.ents.length = g.ents.length
    case neg =>
      have hnz : ¬ (f.ents.length : Int) = (g.ents.length : Int) := by omega
      go_wp2
      go_ret
      exact ⟨mretB (by rw [← HR.out]; simp [hn]), HB.out⟩
    have hnz : (f.ents.length : Int) = (g.ents.length : Int) := by omega
    have HRE := Lib.hid (show R = eqEs (f.ents.drop 0) (g.ents.drop 0) by rw [← HR.out]; simp [hu, hn])
    have HHN := Lib.hid hn
    clear HR y1 y2 y3
    rw [← hn] at f5
    clear hn
    go_wp2
    go_loopw [5] (fun z wr => ∃ i : Nat, i ≤ f.ents.length ∧ z = .int .i64 (i : Int) ∧ R = eqEs (f.ents.drop i) (g.ents.drop i) ∧ Below w3.heap.size w3 wr) (fun z _ => f.ents.length - (RowKit.intOf z).toNat)
    case atStart => exact ⟨0, Nat.zero_le _, rfl, HRE.out, Below.refl _ _⟩
    case round =>
      clear HRE
      obtain ⟨i, hi, rfl, hR, hb⟩ := hrel
      have g5 := mcell hb e5
      have k5 := mcell hb f5
      by_cases hlt : i < f.ents.length
      · have hiz : (i : Int) < (f.ents.length : Int) := by omega
        have hlt2 : i < g.ents.length := by have := HHN.out; omega
        obtain ⟨a, rfl, a0, a1, a2, a3, a4⟩ := HE1.out.below hb i hlt
        obtain ⟨b, rfl, b0, b1, b2, b3, b4⟩ := HE2.out.below hb i hlt2
        rw [List.drop_eq_getElem_cons hlt, List.drop_eq_getElem_cons hlt2, eqEs] at hR
        obtain ⟨x, hx⟩ : ∃ x, f.ents[i] = x := ⟨_, rfl⟩
        obtain ⟨y, hy⟩ : ∃ y, g.ents[i] = y := ⟨_, rfl⟩
        rw [hx] at a0 a1 a2 a3 a4 hR
        rw [hy] at b0 b1 b2 b3 b4 hR
        clear hx hy
        obtain ⟨aa, haa⟩ : ∃ aa, a.add (i * 5) = aa := ⟨_, rfl⟩
        obtain ⟨bb, hbb⟩ : ∃ bb, b.add (i * 5) = bb := ⟨_, rfl⟩
        rw [haa] at a0 a1 a2 a3 a4
        rw [hbb] at b0 b1 b2 b3 b4
        simp only [Addr.add, Nat.reduceEqDiff, ↓reduceIte] at a1 a2 a3 a4 b1 b2 b3 b4
        have hN := fun wx => ment_neq x y wx
        unfold EntV at hN
        obtain ⟨q, hq⟩ : ∃ q, eqE x y = q := ⟨_, rfl⟩
        rw [hq] at hN hR
        have HRR := Lib.hid hR
        have HBB := Lib.hid hb
        clear hR hb hq e0 e1 e2 e3 e4 e5 f0 f1 f2 f3 f4 f5 m1 m2 m3 hu
        cases q
        · go_wp2
          go_quiet (fail)
          go_wp2
          go_ret
          exact ⟨mretB (by rw [HRR.out]; rfl), mdrewN (HB.out.trans (HBB.out.mono HB.out.size)) _⟩
        · go_wp2
          go_quiet (fail)
          go_wp2
          go_roundw
          case rel => exact ⟨i + 1, by omega, by go_num, by rw [HRR.out]; rfl, mdrewN HBB.out _⟩
          case measure => simp [RowKit.intOf]; omega
      · obtain rfl : i = f.ents.length := by omega
        have hiz : ¬ (f.ents.length : Int) < (f.ents.length : Int) := by omega
        rw [List.drop_length] at hR
        have HBB := Lib.hid hb
        clear hb
        go_wp2
        go_ret
        exact ⟨mretB (by first | rfl | (rw [hR]; rfl)), HB.out.trans (HBB.out.mono HB.out.size)⟩
  · clear HX1 HX2
    go_wp2
    go_ret
    exact ⟨mretB (by rw [← HR.out]; simp [hRP]), HB.out⟩
end Go.Proofs.YtbfalppeifkjdaaGreatDoor
end
section
namespace Go.Proofs.YtbfalppeifkjdaaGreatDoor
open Go.RowKit
def okName (s : ByteArray) : Bool := !decide (s.size = 0) && validB s
def lastOk (pre : List EntD) (e : EntD) : Bool := match pre.getLast? with | none => true | some x => decide (cmpE x e < 0)
def okEs (pre : List EntD) : List EntD → Bool
  | [] => true
  | e :: r => okE e && (lastOk pre e && (!(pre.any fun x => decide (x.id = e.id)) && okEs (pre ++ [e]) r))
def okF (f : FeedD) : Bool := decide (f.path.length ≤ 64) && (validB f.id && (validB f.title && (validB f.link && (!decide (f.id.size = 0) && (inTB f.upd && (f.path.all okName && okEs [] f.ents))))))
end Go.Proofs.YtbfalppeifkjdaaGreatDoor
end
