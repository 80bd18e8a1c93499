/- Packed from the texts JwQ JwR JwS. -/
import Derived.Test.YtbfalppeifkjdaaGreatDoorXkJ
import Derived.Test.YtbfalppeifkjdaaGreatDoorXkN
import Derived.Test.YtbfalppeifkjdaaGreatDoorXkU
import Derived.Laws.OwnMore
section
namespace Go.Proofs.YtbfalppeifkjdaaGreatDoor
open Go.RowKit
theorem val_one {w : World} {k : ValD} {v0 v1 v2 v3 v4 v5 v6 : Value} (h : ValIs w k (.agg #[v0, v1, v2, v3, v4, v5, v6])) : ∀ u ∈ [v0, v1, v2, v3, v4, v5, v6], u.oneCell' = true := by
  obtain ⟨p, c, q, d, hv, -, -⟩ := (val_is _ _ _).1 h
  simp only [Value.agg.injEq, Array.mk.injEq, List.cons.injEq, and_true] at hv
  obtain ⟨rfl, rfl, rfl, rfl, rfl, rfl, rfl⟩ := hv
  intro u hu
  simp only [List.mem_cons, List.not_mem_nil, or_false] at hu
  rcases hu with rfl | rfl | rfl | rfl | rfl | rfl | rfl <;> rfl
def VCel (w : World) : List ValD → List Value → Prop
  | [], xs => xs = []
  | k :: r, xs => ∃ v0 v1 v2 v3 v4 v5 v6 ys, xs = v0 :: v1 :: v2 :: v3 :: v4 :: v5 :: v6 :: ys ∧ ValIs w k (.agg #[v0, v1, v2, v3, v4, v5, v6]) ∧ VCel w r ys
theorem VCel.below {w w' : World} (hb : Below w.heap.size w w') : ∀ (l : List ValD) (xs : List Value), VCel w l xs → VCel w' l xs
  | [], xs, h => by rw [VCel] at h ⊢; exact h
  | k :: r, xs, h => by
    rw [VCel] at h ⊢
    obtain ⟨v0, v1, v2, v3, v4, v5, v6, ys, rfl, hv, hr⟩ := h
    exact ⟨v0, v1, v2, v3, v4, v5, v6, ys, rfl, hv.below hb, VCel.below hb r ys hr⟩
theorem VCel.one {w : World} : ∀ (l : List ValD) (xs : List Value), VCel w l xs → ∀ u ∈ xs, u.oneCell' = true
  | [], xs, h => by
    rw [VCel] at h
    subst h
    intro u hu
    cases hu
  | k :: r, xs, h => by
    rw [VCel] at h
    obtain ⟨v0, v1, v2, v3, v4, v5, v6, ys, rfl, hv, hr⟩ := h
    have h1 := val_one hv
    have h2 := VCel.one r ys hr
    intro u hu
    simp only [List.mem_cons] at hu
    simp only [List.mem_cons, List.not_mem_nil, or_false] at h1
    rcases hu with rfl | rfl | rfl | rfl | rfl | rfl | rfl | hu
    · exact h1 _ (by simp)
    · exact h1 _ (by simp)
    · exact h1 _ (by simp)
    · exact h1 _ (by simp)
    · exact h1 _ (by simp)
    · exact h1 _ (by simp)
    · exact h1 _ (by simp)
    · exact h2 u hu
theorem V_cells {w : World} {a : Addr} : ∀ (l : List ValD) (j : Nat), ItemsAt w (some a) j l → ∃ xs, xs.length = l.length * 7 ∧ VCel w l xs ∧ ∀ i u, xs[i]? = some u → w.cell? (a.add (j * 7 + i)) = some u
  | [], j, _ => ⟨[], rfl, by rw [VCel], fun i u h => by simp at h⟩
  | k :: r, j, h => by
    rw [ItemsAt] at h
    obtain ⟨ys, hy1, hy2, hy3⟩ := V_cells r (j + 1) h.2
    obtain ⟨a', v0, v1, v2, v3, v4, v5, v6, ha, ⟨h0, h1, h2, h3, h4, h5, h6⟩, hv⟩ := h.1
    obtain rfl := Option.some.inj ha
    have g1 : w.cell? (a.add (j * 7 + 1)) = some v1 := by rw [← Addr.add_add]; exact h1
    have g2 : w.cell? (a.add (j * 7 + 2)) = some v2 := by rw [← Addr.add_add]; exact h2
    have g3 : w.cell? (a.add (j * 7 + 3)) = some v3 := by rw [← Addr.add_add]; exact h3
    have g4 : w.cell? (a.add (j * 7 + 4)) = some v4 := by rw [← Addr.add_add]; exact h4
    have g5 : w.cell? (a.add (j * 7 + 5)) = some v5 := by rw [← Addr.add_add]; exact h5
    have g6 : w.cell? (a.add (j * 7 + 6)) = some v6 := by rw [← Addr.add_add]; exact h6
    refine ⟨v0 :: v1 :: v2 :: v3 :: v4 :: v5 :: v6 :: ys, by simp only [List.length_cons, hy1]; omega, by rw [VCel]; exact ⟨v0, v1, v2, v3, v4, v5, v6, ys, rfl, hv, hy2⟩, fun i u hu => ?_⟩
    exact match i, hu with
      | 0, hu => by
        obtain rfl := Option.some.inj hu
        exact h0
      | 1, hu => by
        obtain rfl := Option.some.inj hu
        exact g1
      | 2, hu => by
        obtain rfl := Option.some.inj hu
        exact g2
      | 3, hu => by
        obtain rfl := Option.some.inj hu
        exact g3
      | 4, hu => by
        obtain rfl := Option.some.inj hu
        exact g4
      | 5, hu => by
        obtain rfl := Option.some.inj hu
        exact g5
      | 6, hu => by
        obtain rfl := Option.some.inj hu
        exact g6
      | i + 7, hu => by
        rw [show j * 7 + (i + 7) = (j + 1) * 7 + i by omega]
        exact hy3 i u (by simpa using hu)
theorem V_none {w : World} : ∀ (l : List ValD) (j : Nat), ItemsAt w none j l → l = []
  | [], _, _ => rfl
  | k :: r, j, h => by
    rw [ItemsAt] at h
    obtain ⟨a', v0, v1, v2, v3, v4, v5, v6, ha, -⟩ := h.1
    cases ha
def MCel (w : World) : List MemD → List Value → Prop
  | [], xs => xs = []
  | k :: r, xs => ∃ v0 v1 v2 v3 v4 v5 v6 ys, xs = .string k.key :: v0 :: v1 :: v2 :: v3 :: v4 :: v5 :: v6 :: .int .i64 k.at' :: ys ∧ ValIs w k.v (.agg #[v0, v1, v2, v3, v4, v5, v6]) ∧ MCel w r ys
theorem MCel.below {w w' : World} (hb : Below w.heap.size w w') : ∀ (l : List MemD) (xs : List Value), MCel w l xs → MCel w' l xs
  | [], xs, h => by rw [MCel] at h ⊢; exact h
  | k :: r, xs, h => by
    rw [MCel] at h ⊢
    obtain ⟨v0, v1, v2, v3, v4, v5, v6, ys, rfl, hv, hr⟩ := h
    exact ⟨v0, v1, v2, v3, v4, v5, v6, ys, rfl, hv.below hb, MCel.below hb r ys hr⟩
theorem MCel.one {w : World} : ∀ (l : List MemD) (xs : List Value), MCel w l xs → ∀ u ∈ xs, u.oneCell' = true
  | [], xs, h => by
    rw [MCel] at h
    subst h
    intro u hu
    cases hu
  | k :: r, xs, h => by
    rw [MCel] at h
    obtain ⟨v0, v1, v2, v3, v4, v5, v6, ys, rfl, hv, hr⟩ := h
    have h1 := val_one hv
    have h2 := MCel.one r ys hr
    intro u hu
    simp only [List.mem_cons] at hu
    simp only [List.mem_cons, List.not_mem_nil, or_false] at h1
    rcases hu with rfl | rfl | rfl | rfl | rfl | rfl | rfl | rfl | rfl | hu
    · rfl
    · exact h1 _ (by simp)
    · exact h1 _ (by simp)
    · exact h1 _ (by simp)
    · exact h1 _ (by simp)
    · exact h1 _ (by simp)
    · exact h1 _ (by simp)
    · exact h1 _ (by simp)
    · rfl
    · exact h2 u hu
theorem M_cells {w : World} {a : Addr} : ∀ (l : List MemD) (j : Nat), MemsAt w (some a) j l → ∃ xs, xs.length = l.length * 9 ∧ MCel w l xs ∧ ∀ i u, xs[i]? = some u → w.cell? (a.add (j * 9 + i)) = some u
  | [], j, _ => ⟨[], rfl, by rw [MCel], fun i u h => by simp at h⟩
  | k :: r, j, h => by
    rw [MemsAt] at h
    obtain ⟨ys, hy1, hy2, hy3⟩ := M_cells r (j + 1) h.2
    obtain ⟨a', v0, v1, v2, v3, v4, v5, v6, ha, ⟨h0, h1, h2, h3, h4, h5, h6, h7, h8⟩, hv⟩ := (mem_at w _ j k).1 h.1
    obtain rfl := Option.some.inj ha
    have g1 : w.cell? (a.add (j * 9 + 1)) = some v0 := by rw [← Addr.add_add]; exact h1
    have g2 : w.cell? (a.add (j * 9 + 2)) = some v1 := by rw [← Addr.add_add]; exact h2
    have g3 : w.cell? (a.add (j * 9 + 3)) = some v2 := by rw [← Addr.add_add]; exact h3
    have g4 : w.cell? (a.add (j * 9 + 4)) = some v3 := by rw [← Addr.add_add]; exact h4
    have g5 : w.cell? (a.add (j * 9 + 5)) = some v4 := by rw [← Addr.add_add]; exact h5
    have g6 : w.cell? (a.add (j * 9 + 6)) = some v5 := by rw [← Addr.add_add]; exact h6
    have g7 : w.cell? (a.add (j * 9 + 7)) = some v6 := by rw [← Addr.add_add]; exact h7
    have g8 : w.cell? (a.add (j * 9 + 8)) = some (.int .i64 k.at') := by rw [← Addr.add_add]; exact h8
    refine ⟨.string k.key :: v0 :: v1 :: v2 :: v3 :: v4 :: v5 :: v6 :: .int .i64 k.at' :: ys, by simp only [List.length_cons, hy1]; omega, by rw [MCel]; exact ⟨v0, v1, v2, v3, v4, v5, v6, ys, rfl, hv, hy2⟩, fun i u hu => ?_⟩
    exact match i, hu with
      | 0, hu => by
        obtain rfl := Option.some.inj hu
        exact h0
      | 1, hu => by
        obtain rfl := Option.some.inj hu
        exact g1
      | 2, hu => by
        obtain rfl := Option.some.inj hu
        exact g2
      | 3, hu => by
        obtain rfl := Option.some.inj hu
        exact g3
      | 4, hu => by
        obtain rfl := Option.some.inj hu
        exact g4
      | 5, hu => by
        obtain rfl := Option.some.inj hu
        exact g5
      | 6, hu => by
        obtain rfl := Option.some.inj hu
        exact g6
      | 7, hu => by
        obtain rfl := Option.some.inj hu
        exact g7
      | 8, hu => by
        obtain rfl := Option.some.inj hu
        exact g8
      | i + 9, hu => by
        rw [show j * 9 + (i + 9) = (j + 1) * 9 + i by omega]
        exact hy3 i u (by simpa using hu)
theorem M_none {w : World} : ∀ (l : List MemD) (j : Nat), MemsAt w none j l → l = []
  | [], _, _ => rfl
  | k :: r, j, h => by
    rw [MemsAt] at h
    obtain ⟨a', v0, v1, v2, v3, v4, v5, v6, ha, -⟩ := (mem_at w _ j k).1 h.1
    cases ha
set_option maxRecDepth 100000 in
set_option maxHeartbeats 4000000 in
theorem jw_cloneV (l : List ValD) (p : Option Addr) (c : Nat) (w : World) (hI : ItemsAt w p 0 l) (hl : l.length ≤ 1000000) :
    Calls Tryz.prog 147 #[.slice p l.length c] w fun e w' => ∃ p' c' xs, e = .returned (.slice p' l.length c') ∧ w'.ownsRow w.heap.size 119 7 (.slice p' l.length c') l.length xs ∧ VCel w l xs ∧ Below w.heap.size w w' := by
  obtain ⟨i0, hi0, hi1, hi3, hi4⟩ := info_parts jinfo_value
  rcases p with _ | a
  · obtain rfl := V_none l 0 hI
    have hnil : ∀ wx, (binOp .eql 115 (.slice none 0 c) (.slice none 0 0)).run Tryz.prog wx = .ok (.bool true) wx := fun wx => Lib.run_eql_slice_nil wx _ _ none 0 c 0 0 Tryz.underlying115
    go_enter Tryz.func147, Tryz.ntmps147
    go_wp2
    go_ret
    exact ⟨none, 0, [], rfl, World.ownsRow_nil _ _ _ _, by rw [VCel], Below.refl _ _⟩
  · obtain ⟨xs, hx1, hx2, hx3⟩ := V_cells l 0 hI
    have h1 := VCel.one l xs hx2
    have hE := World.ownsRow_made (base := w.heap.size) (e := 119) (size := 7) w #[] 0 (Nat.le_refl _) (Nat.zero_le _) rfl
    have hba : ∀ o : Obj, Below w.heap.size w (w.alloc o) := fun o => (Below.refl _ _).alloc (Nat.le_refl _) o
    have hnews : ∀ j u, xs[j]? = some u → (w.alloc (.cells #[] 119)).cell? (a.add j) = some u := fun j u hu => by
      have := hx3 j u hu
      rw [Nat.zero_mul, Nat.zero_add] at this
      exact ((hba _).cell (vblock_lt this)).trans this
    have hlz : (l.length : Int) ≤ 1000000 := by omega
    have hnil : ∀ wx, (binOp .eql 115 (.slice (some a) l.length c) (.slice none 0 0)).run Tryz.prog wx = .ok (.bool false) wx := fun wx => Lib.run_eql_slice_nil wx _ _ (some a) l.length c 0 0 Tryz.underlying115
    have HX := Lib.hid hx2
    clear hI hx2 hx3
    go_enter Tryz.func147, Tryz.ntmps147
    go_wp2_with (at_builtin; refine wpList_append_own _ rfl _ _ 115 rfl w.heap.size 119 i0 (.agg #[.int .i64 0, .bool false, .int .i64 0, .string ⟨#[]⟩, .slice none 0 0, .slice none 0 0, .int .i64 0]) 7 96 Tryz.underlying115 hi0 hi1 hi3 hi4 rfl (by decide) (.slice (some ⟨w.heap.size, 0, none⟩) 0 0) 0 [] rfl hE a l.length c xs rfl hx1 hnews h1 (by unfold maxLen; omega) (by omega) (by simp) ?_; intro v4 w4 hown4 hgrow4 _)
    rw [Nat.zero_add, List.nil_append] at hown4
    obtain ⟨p4, c4, rfl⟩ := jrow_val hown4
    have HB := Lib.hid ((hba (.cells #[] 119)).grown hgrow4 (by simp) (fun k hk => by cases hk; exact Nat.le_refl _))
    clear hgrow4 hnews hE hba
    go_wp2
    go_ret
    exact ⟨p4, c4, xs, rfl, hown4, HX.out, HB.out⟩
set_option maxRecDepth 100000 in
set_option maxHeartbeats 4000000 in
theorem jw_cloneM (l : List MemD) (p : Option Addr) (c : Nat) (w : World) (hI : MemsAt w p 0 l) (hl : l.length ≤ 1000000) :
    Calls Tryz.prog 160 #[.slice p l.length c] w fun e w' => ∃ p' c' xs, e = .returned (.slice p' l.length c') ∧ w'.ownsRow w.heap.size 188 9 (.slice p' l.length c') l.length xs ∧ MCel w l xs ∧ Below w.heap.size w w' := by
  obtain ⟨i0, hi0, hi1, hi3, hi4⟩ := info_parts jinfo_mem
  rcases p with _ | a
  · obtain rfl := M_none l 0 hI
    have hnil : ∀ wx, (binOp .eql 117 (.slice none 0 c) (.slice none 0 0)).run Tryz.prog wx = .ok (.bool true) wx := fun wx => Lib.run_eql_slice_nil wx _ _ none 0 c 0 0 Tryz.underlying117
    go_enter Tryz.func160, Tryz.ntmps160
    go_wp2
    go_ret
    exact ⟨none, 0, [], rfl, World.ownsRow_nil _ _ _ _, by rw [MCel], Below.refl _ _⟩
  · obtain ⟨xs, hx1, hx2, hx3⟩ := M_cells l 0 hI
    have h1 := MCel.one l xs hx2
    have hE := World.ownsRow_made (base := w.heap.size) (e := 188) (size := 9) w #[] 0 (Nat.le_refl _) (Nat.zero_le _) rfl
    have hba : ∀ o : Obj, Below w.heap.size w (w.alloc o) := fun o => (Below.refl _ _).alloc (Nat.le_refl _) o
    have hnews : ∀ j u, xs[j]? = some u → (w.alloc (.cells #[] 188)).cell? (a.add j) = some u := fun j u hu => by
      have := hx3 j u hu
      rw [Nat.zero_mul, Nat.zero_add] at this
      exact ((hba _).cell (vblock_lt this)).trans this
    have hlz : (l.length : Int) ≤ 1000000 := by omega
    have hnil : ∀ wx, (binOp .eql 117 (.slice (some a) l.length c) (.slice none 0 0)).run Tryz.prog wx = .ok (.bool false) wx := fun wx => Lib.run_eql_slice_nil wx _ _ (some a) l.length c 0 0 Tryz.underlying117
    have HX := Lib.hid hx2
    clear hI hx2 hx3
    go_enter Tryz.func160, Tryz.ntmps160
    go_wp2_with (at_builtin; refine wpList_append_own _ rfl _ _ 117 rfl w.heap.size 188 i0 (.agg #[.string ⟨#[]⟩, .int .i64 0, .bool false, .int .i64 0, .string ⟨#[]⟩, .slice none 0 0, .slice none 0 0, .int .i64 0, .int .i64 0]) 9 120 Tryz.underlying117 hi0 hi1 hi3 hi4 rfl (by decide) (.slice (some ⟨w.heap.size, 0, none⟩) 0 0) 0 [] rfl hE a l.length c xs rfl hx1 hnews h1 (by unfold maxLen; omega) (by omega) (by simp) ?_; intro v4 w4 hown4 hgrow4 _)
    rw [Nat.zero_add, List.nil_append] at hown4
    obtain ⟨p4, c4, rfl⟩ := jrow_val hown4
    have HB := Lib.hid ((hba (.cells #[] 188)).grown hgrow4 (by simp) (fun k hk => by cases hk; exact Nat.le_refl _))
    clear hgrow4 hnews hE hba
    go_wp2
    go_ret
    exact ⟨p4, c4, xs, rfl, hown4, HX.out, HB.out⟩
end Go.Proofs.YtbfalppeifkjdaaGreatDoor
end
section
namespace Go.Proofs.YtbfalppeifkjdaaGreatDoor
open Go.RowKit
def CoAt (n : ValD) : Prop := ∀ (v : Value) (w : World), ValIs w n v → Calls Tryz.prog 127 #[v] w fun e w' => (∃ x, e = .returned x ∧ ValIs (sans w' (low w.heap.size)) n x) ∧ Below w.heap.size w w'
def CoMAt (m : MemD) : Prop := ∀ (v0 v1 v2 v3 v4 v5 v6 : Value) (w : World), ValIs w m.v (.agg #[v0, v1, v2, v3, v4, v5, v6]) → Calls Tryz.prog 149 #[.agg #[.string m.key, v0, v1, v2, v3, v4, v5, v6, .int .i64 m.at']] w fun e w' => (∃ x0 x1 x2 x3 x4 x5 x6, e = .returned (.agg #[.string m.key, x0, x1, x2, x3, x4, x5, x6, .int .i64 m.at']) ∧ ValIs (sans w' (low w.heap.size)) m.v (.agg #[x0, x1, x2, x3, x4, x5, x6])) ∧ Below w.heap.size w w'
theorem jrow_put7 {w : World} {B : Nat} {T : TypeId} {g n cap m : Nat} {ys zs : List Value} {z0 z1 z2 z3 z4 z5 z6 : Value} (hr : w.ownsRow B T 7 (.slice (some ⟨g, 0, none⟩) n cap) n (ys ++ (z0 :: z1 :: z2 :: z3 :: z4 :: z5 :: z6 :: zs))) (hl : ys.length = m) (n0 n1 n2 n3 n4 n5 n6 : Value) :
    (((((((w.setCell ⟨g, m, none⟩ n0).setCell ⟨g, m + 1, none⟩ n1).setCell ⟨g, m + 2, none⟩ n2).setCell ⟨g, m + 3, none⟩ n3).setCell ⟨g, m + 4, none⟩ n4).setCell ⟨g, m + 5, none⟩ n5).setCell ⟨g, m + 6, none⟩ n6).ownsRow B T 7 (.slice (some ⟨g, 0, none⟩) n cap) n ((ys ++ [n0, n1, n2, n3, n4, n5, n6]) ++ zs) ∧ w.grownBy (((((((w.setCell ⟨g, m, none⟩ n0).setCell ⟨g, m + 1, none⟩ n1).setCell ⟨g, m + 2, none⟩ n2).setCell ⟨g, m + 3, none⟩ n3).setCell ⟨g, m + 4, none⟩ n4).setCell ⟨g, m + 5, none⟩ n5).setCell ⟨g, m + 6, none⟩ n6) (some g) := by
  have s0 := hr.stored (m) n0
  have s1 := s0.1.stored (m + 1) n1
  have s2 := s1.1.stored (m + 2) n2
  have s3 := s2.1.stored (m + 3) n3
  have s4 := s3.1.stored (m + 4) n4
  have s5 := s4.1.stored (m + 5) n5
  have s6 := s5.1.stored (m + 6) n6
  have e : ((((((((ys ++ (z0 :: z1 :: z2 :: z3 :: z4 :: z5 :: z6 :: zs)).set (m) n0).set (m + 1) n1).set (m + 2) n2).set (m + 3) n3).set (m + 4) n4).set (m + 5) n5).set (m + 6) n6) = (ys ++ [n0, n1, n2, n3, n4, n5, n6]) ++ zs := by
    have h0 := jset_app hl (z0 :: z1 :: z2 :: z3 :: z4 :: z5 :: z6 :: zs) 0 n0
    rw [Nat.add_zero] at h0
    rw [h0, jset_app hl, jset_app hl, jset_app hl, jset_app hl, jset_app hl, jset_app hl, List.append_assoc]
    rfl
  have hE := s6.1
  rw [e] at hE
  exact ⟨hE, (jgrown_then (jgrown_then (jgrown_then (jgrown_then (jgrown_then (jgrown_then s0.2 s1.2) s2.2) s3.2) s4.2) s5.2) s6.2)⟩
theorem jrow_put9 {w : World} {B : Nat} {T : TypeId} {g n cap m : Nat} {ys zs : List Value} {z0 z1 z2 z3 z4 z5 z6 z7 z8 : Value} (hr : w.ownsRow B T 9 (.slice (some ⟨g, 0, none⟩) n cap) n (ys ++ (z0 :: z1 :: z2 :: z3 :: z4 :: z5 :: z6 :: z7 :: z8 :: zs))) (hl : ys.length = m) (n0 n1 n2 n3 n4 n5 n6 n7 n8 : Value) :
    (((((((((w.setCell ⟨g, m, none⟩ n0).setCell ⟨g, m + 1, none⟩ n1).setCell ⟨g, m + 2, none⟩ n2).setCell ⟨g, m + 3, none⟩ n3).setCell ⟨g, m + 4, none⟩ n4).setCell ⟨g, m + 5, none⟩ n5).setCell ⟨g, m + 6, none⟩ n6).setCell ⟨g, m + 7, none⟩ n7).setCell ⟨g, m + 8, none⟩ n8).ownsRow B T 9 (.slice (some ⟨g, 0, none⟩) n cap) n ((ys ++ [n0, n1, n2, n3, n4, n5, n6, n7, n8]) ++ zs) ∧ w.grownBy (((((((((w.setCell ⟨g, m, none⟩ n0).setCell ⟨g, m + 1, none⟩ n1).setCell ⟨g, m + 2, none⟩ n2).setCell ⟨g, m + 3, none⟩ n3).setCell ⟨g, m + 4, none⟩ n4).setCell ⟨g, m + 5, none⟩ n5).setCell ⟨g, m + 6, none⟩ n6).setCell ⟨g, m + 7, none⟩ n7).setCell ⟨g, m + 8, none⟩ n8) (some g) := by
  have s0 := hr.stored (m) n0
  have s1 := s0.1.stored (m + 1) n1
  have s2 := s1.1.stored (m + 2) n2
  have s3 := s2.1.stored (m + 3) n3
  have s4 := s3.1.stored (m + 4) n4
  have s5 := s4.1.stored (m + 5) n5
  have s6 := s5.1.stored (m + 6) n6
  have s7 := s6.1.stored (m + 7) n7
  have s8 := s7.1.stored (m + 8) n8
  have e : ((((((((((ys ++ (z0 :: z1 :: z2 :: z3 :: z4 :: z5 :: z6 :: z7 :: z8 :: zs)).set (m) n0).set (m + 1) n1).set (m + 2) n2).set (m + 3) n3).set (m + 4) n4).set (m + 5) n5).set (m + 6) n6).set (m + 7) n7).set (m + 8) n8) = (ys ++ [n0, n1, n2, n3, n4, n5, n6, n7, n8]) ++ zs := by
    have h0 := jset_app hl (z0 :: z1 :: z2 :: z3 :: z4 :: z5 :: z6 :: z7 :: z8 :: zs) 0 n0
    rw [Nat.add_zero] at h0
    rw [h0, jset_app hl, jset_app hl, jset_app hl, jset_app hl, jset_app hl, jset_app hl, jset_app hl, jset_app hl, List.append_assoc]
    rfl
  have hE := s8.1
  rw [e] at hE
  exact ⟨hE, (jgrown_then (jgrown_then (jgrown_then (jgrown_then (jgrown_then (jgrown_then (jgrown_then (jgrown_then s0.2 s1.2) s2.2) s3.2) s4.2) s5.2) s6.2) s7.2) s8.2)⟩
set_option maxRecDepth 100000 in
set_option maxHeartbeats 16000000 in
theorem jw_copiesV (l : List ValD) (hA : ∀ k ∈ l, CoAt k) (p : Option Addr) (c : Nat) (w : World) (hI : ItemsAt w p 0 l) (hl : l.length ≤ 1000000) :
    Calls Tryz.prog 126 #[.slice p l.length c, .func (.func 127) #[] #[]] w fun e w' => ∃ p' c', e = .returned (.slice p' l.length c') ∧ ItemsAt (sans w' (low w.heap.size)) p' 0 l ∧ Below w.heap.size w w' := by
  have c1 := jw_cloneV l p c w hI hl
  have HA := Lib.hid hA
  have hlz : (l.length : Int) ≤ 1000000 := by omega
  clear hI hA
  go_enter Tryz.func126, Tryz.ntmps126
  go_wp2_with fail
  refine c1.mono ?_
  rintro e w0 ⟨p0, cap, xs, rfl, ho0, hx0, hb0⟩
  have HO := Lib.hid ho0
  have HX := Lib.hid hx0
  have HB := Lib.hid hb0
  clear c1 ho0 hx0 hb0
  go_wp2
  go_loopw [11] (fun q wr => ∃ (i : Nat) (ys zs : List Value), i ≤ l.length ∧ q = .int .i64 i ∧ ys.length = i * 7 ∧ wr.ownsRow w.heap.size 119 7 (.slice p0 l.length cap) l.length (ys ++ zs) ∧ VRow wr (lowx w.heap.size (Value.slice p0 l.length cap).ownBlock) (l.take i) ys ∧ VCel w (l.drop i) zs ∧ Below w.heap.size w wr) (fun q _ => l.length - (RowKit.intOf q).toNat)
  case atStart => exact ⟨0, [], xs, Nat.zero_le _, rfl, rfl, HO.out, by rw [List.take_zero, VRow], HX.out, HB.out⟩
  case round =>
    obtain ⟨i, ys, zs, hi, rfl, hyl, ho, hr, hz, hbr⟩ := hrel
    by_cases hlt : i < l.length
    · have hiz : (i : Int) < (l.length : Int) := by omega
      obtain ⟨g, cap', hv, hBg, _⟩ := ho.form (by omega)
      obtain ⟨rfl, rfl⟩ : p0 = some ⟨g, 0, none⟩ ∧ cap = cap' := by injection hv with h1 _ h3; exact ⟨h1, h3⟩
      clear hv
      rw [List.drop_eq_getElem_cons hlt, VCel] at hz
      have hcs : l.take (i + 1) = l.take i ++ [l[i]] := List.take_succ_eq_append_getElem hlt
      obtain ⟨k, hkk⟩ : ∃ k, l[i] = k := ⟨_, rfl⟩
      have hmem : k ∈ l := by rw [← hkk]; exact List.getElem_mem _
      rw [hkk] at hz hcs
      obtain ⟨v0, v1, v2, v3, v4, v5, v6, zs', rfl, hk, hz'⟩ := hz
      obtain ⟨p2, c2, q2, d2, hv, -, -⟩ := (val_is _ _ _).1 hk
      simp only [Value.agg.injEq, Array.mk.injEq, List.cons.injEq, and_true] at hv
      obtain ⟨rfl, rfl, rfl, rfl, rfl, rfl, rfl⟩ := hv
      have cA := HA.out k hmem
      have a0 : wr.cell? ⟨g, i * 7, none⟩ = some (.int .i64 k.kind) := by exact (jadd g (i * 7 + 0)) ▸ World.ownsRow.cells ho (g := g) rfl (i * 7 + 0) _ (by rw [List.getElem?_append_right (by omega), show i * 7 + 0 - ys.length = 0 by omega]; rfl)
      have a1 : wr.cell? ⟨g, i * 7 + 1, none⟩ = some (.bool k.b) := by exact (jadd g (i * 7 + 1)) ▸ World.ownsRow.cells ho (g := g) rfl (i * 7 + 1) _ (by rw [List.getElem?_append_right (by omega), show i * 7 + 1 - ys.length = 1 by omega]; rfl)
      have a2 : wr.cell? ⟨g, i * 7 + 2, none⟩ = some (.int .i64 k.n) := by exact (jadd g (i * 7 + 2)) ▸ World.ownsRow.cells ho (g := g) rfl (i * 7 + 2) _ (by rw [List.getElem?_append_right (by omega), show i * 7 + 2 - ys.length = 2 by omega]; rfl)
      have a3 : wr.cell? ⟨g, i * 7 + 3, none⟩ = some (.string k.s) := by exact (jadd g (i * 7 + 3)) ▸ World.ownsRow.cells ho (g := g) rfl (i * 7 + 3) _ (by rw [List.getElem?_append_right (by omega), show i * 7 + 3 - ys.length = 3 by omega]; rfl)
      have a4 : wr.cell? ⟨g, i * 7 + 4, none⟩ = some (.slice p2 k.items.length c2) := by exact (jadd g (i * 7 + 4)) ▸ World.ownsRow.cells ho (g := g) rfl (i * 7 + 4) _ (by rw [List.getElem?_append_right (by omega), show i * 7 + 4 - ys.length = 4 by omega]; rfl)
      have a5 : wr.cell? ⟨g, i * 7 + 5, none⟩ = some (.slice q2 k.mems.length d2) := by exact (jadd g (i * 7 + 5)) ▸ World.ownsRow.cells ho (g := g) rfl (i * 7 + 5) _ (by rw [List.getElem?_append_right (by omega), show i * 7 + 5 - ys.length = 5 by omega]; rfl)
      have a6 : wr.cell? ⟨g, i * 7 + 6, none⟩ = some (.int .i64 k.at') := by exact (jadd g (i * 7 + 6)) ▸ World.ownsRow.cells ho (g := g) rfl (i * 7 + 6) _ (by rw [List.getElem?_append_right (by omega), show i * 7 + 6 - ys.length = 6 by omega]; rfl)
      obtain ⟨W2, hW2⟩ : ∃ W2, W2 = wr.alloc (.cells #[.int .i64 k.kind, .bool k.b, .int .i64 k.n, .string k.s, .slice p2 k.items.length c2, .slice q2 k.mems.length d2, .int .i64 k.at'] 119) := ⟨_, rfl⟩
      have B2 : Bj W2 wr.heap.size #[.int .i64 k.kind, .bool k.b, .int .i64 k.n, .string k.s, .slice p2 k.items.length c2, .slice q2 k.mems.length d2, .int .i64 k.at'] 119 := by rw [hW2]; exact Bj.new wr _ _
      have hb2 : Below wr.heap.size wr W2 := by rw [hW2]; exact (Below.refl _ _).alloc (Nat.le_refl _) _
      have cF := cA _ W2 (hk.below (hbr.trans (hb2.mono hbr.size)))
      have cF := fun (wx : World) (hx : wx = W2) => (show Calls Tryz.prog 127 _ wx _ from hx ▸ cF)
      have HZ := Lib.hid hz'
      have HO1 := Lib.hid ho
      have HR1 := Lib.hid hr
      have HB1 := Lib.hid hbr
      have HB2 := Lib.hid hb2
      have HCS := Lib.hid hcs
      have HK := Lib.hid hk
      obtain ⟨⟨k0, k1, k2, k3, k4, k5, k6⟩, -⟩ := B2.seven
      clear hz' ho hr hbr hk hb2 B2 hcs hmem hkk cA
      go_wp2_with fail
      refine (cF _ hW2.symm).mono ?_
      rintro e w1 ⟨⟨x, rfl, hx⟩, b1⟩
      obtain ⟨p3, c3, q3, d3, rfl, -, -⟩ := (val_is _ _ _).1 hx
      rw [← hW2] at hx b1
      have hz2 := HB2.out.size
      have b01 : Below wr.heap.size wr w1 := HB2.out.trans (b1.mono hz2)
      have ho1 := jrow_same HO1.out (fun g' hg' => b01.block g' (HO1.out.lt g' hg').2)
      have y0 : w1.cell? ⟨g, i * 7, none⟩ = some (.int .i64 k.kind) := by exact (jadd g (i * 7 + 0)) ▸ World.ownsRow.cells ho1 (g := g) rfl (i * 7 + 0) _ (by rw [List.getElem?_append_right (by omega), show i * 7 + 0 - ys.length = 0 by omega]; rfl)
      have y1 : w1.cell? ⟨g, i * 7 + 1, none⟩ = some (.bool k.b) := by exact (jadd g (i * 7 + 1)) ▸ World.ownsRow.cells ho1 (g := g) rfl (i * 7 + 1) _ (by rw [List.getElem?_append_right (by omega), show i * 7 + 1 - ys.length = 1 by omega]; rfl)
      have y2 : w1.cell? ⟨g, i * 7 + 2, none⟩ = some (.int .i64 k.n) := by exact (jadd g (i * 7 + 2)) ▸ World.ownsRow.cells ho1 (g := g) rfl (i * 7 + 2) _ (by rw [List.getElem?_append_right (by omega), show i * 7 + 2 - ys.length = 2 by omega]; rfl)
      have y3 : w1.cell? ⟨g, i * 7 + 3, none⟩ = some (.string k.s) := by exact (jadd g (i * 7 + 3)) ▸ World.ownsRow.cells ho1 (g := g) rfl (i * 7 + 3) _ (by rw [List.getElem?_append_right (by omega), show i * 7 + 3 - ys.length = 3 by omega]; rfl)
      have y4 : w1.cell? ⟨g, i * 7 + 4, none⟩ = some (.slice p2 k.items.length c2) := by exact (jadd g (i * 7 + 4)) ▸ World.ownsRow.cells ho1 (g := g) rfl (i * 7 + 4) _ (by rw [List.getElem?_append_right (by omega), show i * 7 + 4 - ys.length = 4 by omega]; rfl)
      have y5 : w1.cell? ⟨g, i * 7 + 5, none⟩ = some (.slice q2 k.mems.length d2) := by exact (jadd g (i * 7 + 5)) ▸ World.ownsRow.cells ho1 (g := g) rfl (i * 7 + 5) _ (by rw [List.getElem?_append_right (by omega), show i * 7 + 5 - ys.length = 5 by omega]; rfl)
      have y6 : w1.cell? ⟨g, i * 7 + 6, none⟩ = some (.int .i64 k.at') := by exact (jadd g (i * 7 + 6)) ▸ World.ownsRow.cells ho1 (g := g) rfl (i * 7 + 6) _ (by rw [List.getElem?_append_right (by omega), show i * 7 + 6 - ys.length = 6 by omega]; rfl)
      have r0 : w1.frozen? ⟨g, i * 7, none⟩ = false := ho1.frozenAt _
      have r1 : w1.frozen? ⟨g, i * 7 + 1, none⟩ = false := ho1.frozenAt _
      have r2 : w1.frozen? ⟨g, i * 7 + 2, none⟩ = false := ho1.frozenAt _
      have r3 : w1.frozen? ⟨g, i * 7 + 3, none⟩ = false := ho1.frozenAt _
      have r4 : w1.frozen? ⟨g, i * 7 + 4, none⟩ = false := ho1.frozenAt _
      have r5 : w1.frozen? ⟨g, i * 7 + 5, none⟩ = false := ho1.frozenAt _
      have r6 : w1.frozen? ⟨g, i * 7 + 6, none⟩ = false := ho1.frozenAt _
      have hput := jrow_put7 ho1 hyl (.int .i64 k.kind) (.bool k.b) (.int .i64 k.n) (.string k.s) (.slice p3 k.items.length c3) (.slice q3 k.mems.length d3) (.int .i64 k.at')
      have hv5 := VRow.push (W := (((((((w1.setCell ⟨g, i * 7, none⟩ (.int .i64 k.kind)).setCell ⟨g, i * 7 + 1, none⟩ (.bool k.b)).setCell ⟨g, i * 7 + 2, none⟩ (.int .i64 k.n)).setCell ⟨g, i * 7 + 3, none⟩ (.string k.s)).setCell ⟨g, i * 7 + 4, none⟩ (.slice p3 k.items.length c3)).setCell ⟨g, i * 7 + 5, none⟩ (.slice q3 k.mems.length d3)).setCell ⟨g, i * 7 + 6, none⟩ (.int .i64 k.at'))) (g := g) HR1.out hx (by omega) (by omega) b01.size (fun k hk => (HO1.out.lt k hk).2) (.inl rfl) (fun k hk _ => b01.block k hk) (fun kk hk1 _ hne => hput.2.block kk hk1 (fun e => hne e.symm))
      rw [← HCS.out] at hv5
      have HV5 := Lib.hid hv5
      have HO5 := Lib.hid hput.1
      have HB5 := Lib.hid ((HB1.out.trans (b01.mono HB1.out.size)).grown hput.2 (HB1.out.trans (b01.mono HB1.out.size)).size (fun kk hk => by cases hk; exact hBg))
      have hyl5 : (ys ++ ([.int .i64 k.kind, .bool k.b, .int .i64 k.n, .string k.s, .slice p3 k.items.length c3, .slice q3 k.mems.length d3, .int .i64 k.at'] : List Value)).length = (i + 1) * 7 := by simp only [List.length_append, List.length_cons, List.length_nil]; omega
      clear hv5 hput b1 b01 cF hW2 k0 k1 k2 k3 k4 k5 k6 a0 a1 a2 a3 a4 a5 a6 hx ho1
      go_wp2
      go_roundw
      case rel => exact ⟨i + 1, _, zs', hlt, by go_num, hyl5, HO5.out, HV5.out, HZ.out, HB5.out⟩
      case measure => simp [RowKit.intOf]; omega
    · obtain rfl : i = l.length := by omega
      have hiz : ¬ (l.length : Int) < (l.length : Int) := by omega
      rw [List.drop_eq_nil_of_le (Nat.le_refl _), VCel] at hz
      subst hz
      rw [List.append_nil] at ho
      rw [List.take_length] at hr
      have HIT := Lib.hid (VRow.whole ho hr rfl)
      clear ho hr
      go_wp2
      go_ret
      exact ⟨p0, ⟨cap, rfl⟩, HIT.out, hbr⟩
set_option maxRecDepth 100000 in
set_option maxHeartbeats 16000000 in
theorem jw_copiesM (l : List MemD) (hA : ∀ k ∈ l, CoMAt k) (p : Option Addr) (c : Nat) (w : World) (hI : MemsAt w p 0 l) (hl : l.length ≤ 1000000) :
    Calls Tryz.prog 148 #[.slice p l.length c, .func (.func 149) #[] #[]] w fun e w' => ∃ p' c', e = .returned (.slice p' l.length c') ∧ MemsAt (sans w' (low w.heap.size)) p' 0 l ∧ Below w.heap.size w w' := by
  have c1 := jw_cloneM l p c w hI hl
  have HA := Lib.hid hA
  have hlz : (l.length : Int) ≤ 1000000 := by omega
  clear hI hA
  go_enter Tryz.func148, Tryz.ntmps148
  go_wp2_with fail
  refine c1.mono ?_
  rintro e w0 ⟨p0, cap, xs, rfl, ho0, hx0, hb0⟩
  have HO := Lib.hid ho0
  have HX := Lib.hid hx0
  have HB := Lib.hid hb0
  clear c1 ho0 hx0 hb0
  go_wp2
  go_loopw [11] (fun q wr => ∃ (i : Nat) (ys zs : List Value), i ≤ l.length ∧ q = .int .i64 i ∧ ys.length = i * 9 ∧ wr.ownsRow w.heap.size 188 9 (.slice p0 l.length cap) l.length (ys ++ zs) ∧ MRow wr (lowx w.heap.size (Value.slice p0 l.length cap).ownBlock) (l.take i) ys ∧ MCel w (l.drop i) zs ∧ Below w.heap.size w wr) (fun q _ => l.length - (RowKit.intOf q).toNat)
  case atStart => exact ⟨0, [], xs, Nat.zero_le _, rfl, rfl, HO.out, by rw [List.take_zero, MRow], HX.out, HB.out⟩
  case round =>
    obtain ⟨i, ys, zs, hi, rfl, hyl, ho, hr, hz, hbr⟩ := hrel
    by_cases hlt : i < l.length
    · have hiz : (i : Int) < (l.length : Int) := by omega
      obtain ⟨g, cap', hv, hBg, _⟩ := ho.form (by omega)
      obtain ⟨rfl, rfl⟩ : p0 = some ⟨g, 0, none⟩ ∧ cap = cap' := by injection hv with h1 _ h3; exact ⟨h1, h3⟩
      clear hv
      rw [List.drop_eq_getElem_cons hlt, MCel] at hz
      have hcs : l.take (i + 1) = l.take i ++ [l[i]] := List.take_succ_eq_append_getElem hlt
      obtain ⟨k, hkk⟩ : ∃ k, l[i] = k := ⟨_, rfl⟩
      have hmem : k ∈ l := by rw [← hkk]; exact List.getElem_mem _
      rw [hkk] at hz hcs
      obtain ⟨v0, v1, v2, v3, v4, v5, v6, zs', rfl, hk, hz'⟩ := hz
      obtain ⟨p2, c2, q2, d2, hv, -, -⟩ := (val_is _ _ _).1 hk
      simp only [Value.agg.injEq, Array.mk.injEq, List.cons.injEq, and_true] at hv
      obtain ⟨rfl, rfl, rfl, rfl, rfl, rfl, rfl⟩ := hv
      have cA := HA.out k hmem
      have a0 : wr.cell? ⟨g, i * 9, none⟩ = some (.string k.key) := by exact (jadd g (i * 9 + 0)) ▸ World.ownsRow.cells ho (g := g) rfl (i * 9 + 0) _ (by rw [List.getElem?_append_right (by omega), show i * 9 + 0 - ys.length = 0 by omega]; rfl)
      have a1 : wr.cell? ⟨g, i * 9 + 1, none⟩ = some (.int .i64 k.v.kind) := by exact (jadd g (i * 9 + 1)) ▸ World.ownsRow.cells ho (g := g) rfl (i * 9 + 1) _ (by rw [List.getElem?_append_right (by omega), show i * 9 + 1 - ys.length = 1 by omega]; rfl)
      have a2 : wr.cell? ⟨g, i * 9 + 2, none⟩ = some (.bool k.v.b) := by exact (jadd g (i * 9 + 2)) ▸ World.ownsRow.cells ho (g := g) rfl (i * 9 + 2) _ (by rw [List.getElem?_append_right (by omega), show i * 9 + 2 - ys.length = 2 by omega]; rfl)
      have a3 : wr.cell? ⟨g, i * 9 + 3, none⟩ = some (.int .i64 k.v.n) := by exact (jadd g (i * 9 + 3)) ▸ World.ownsRow.cells ho (g := g) rfl (i * 9 + 3) _ (by rw [List.getElem?_append_right (by omega), show i * 9 + 3 - ys.length = 3 by omega]; rfl)
      have a4 : wr.cell? ⟨g, i * 9 + 4, none⟩ = some (.string k.v.s) := by exact (jadd g (i * 9 + 4)) ▸ World.ownsRow.cells ho (g := g) rfl (i * 9 + 4) _ (by rw [List.getElem?_append_right (by omega), show i * 9 + 4 - ys.length = 4 by omega]; rfl)
      have a5 : wr.cell? ⟨g, i * 9 + 5, none⟩ = some (.slice p2 k.v.items.length c2) := by exact (jadd g (i * 9 + 5)) ▸ World.ownsRow.cells ho (g := g) rfl (i * 9 + 5) _ (by rw [List.getElem?_append_right (by omega), show i * 9 + 5 - ys.length = 5 by omega]; rfl)
      have a6 : wr.cell? ⟨g, i * 9 + 6, none⟩ = some (.slice q2 k.v.mems.length d2) := by exact (jadd g (i * 9 + 6)) ▸ World.ownsRow.cells ho (g := g) rfl (i * 9 + 6) _ (by rw [List.getElem?_append_right (by omega), show i * 9 + 6 - ys.length = 6 by omega]; rfl)
      have a7 : wr.cell? ⟨g, i * 9 + 7, none⟩ = some (.int .i64 k.v.at') := by exact (jadd g (i * 9 + 7)) ▸ World.ownsRow.cells ho (g := g) rfl (i * 9 + 7) _ (by rw [List.getElem?_append_right (by omega), show i * 9 + 7 - ys.length = 7 by omega]; rfl)
      have a8 : wr.cell? ⟨g, i * 9 + 8, none⟩ = some (.int .i64 k.at') := by exact (jadd g (i * 9 + 8)) ▸ World.ownsRow.cells ho (g := g) rfl (i * 9 + 8) _ (by rw [List.getElem?_append_right (by omega), show i * 9 + 8 - ys.length = 8 by omega]; rfl)
      obtain ⟨W2, hW2⟩ : ∃ W2, W2 = wr.alloc (.cells #[.string k.key, .int .i64 k.v.kind, .bool k.v.b, .int .i64 k.v.n, .string k.v.s, .slice p2 k.v.items.length c2, .slice q2 k.v.mems.length d2, .int .i64 k.v.at', .int .i64 k.at'] 188) := ⟨_, rfl⟩
      have B2 : Bj W2 wr.heap.size #[.string k.key, .int .i64 k.v.kind, .bool k.v.b, .int .i64 k.v.n, .string k.v.s, .slice p2 k.v.items.length c2, .slice q2 k.v.mems.length d2, .int .i64 k.v.at', .int .i64 k.at'] 188 := by rw [hW2]; exact Bj.new wr _ _
      have hb2 : Below wr.heap.size wr W2 := by rw [hW2]; exact (Below.refl _ _).alloc (Nat.le_refl _) _
      have cF := cA _ _ _ _ _ _ _ W2 (hk.below (hbr.trans (hb2.mono hbr.size)))
      have cF := fun (wx : World) (hx : wx = W2) => (show Calls Tryz.prog 149 _ wx _ from hx ▸ cF)
      have HZ := Lib.hid hz'
      have HO1 := Lib.hid ho
      have HR1 := Lib.hid hr
      have HB1 := Lib.hid hbr
      have HB2 := Lib.hid hb2
      have HCS := Lib.hid hcs
      have HK := Lib.hid hk
      obtain ⟨⟨k0, k1, k2, k3, k4, k5, k6, k7, k8⟩, -⟩ := B2.nine
      clear hz' ho hr hbr hk hb2 B2 hcs hmem hkk cA
      go_wp2_with fail
      refine (cF _ hW2.symm).mono ?_
      rintro e w1 ⟨⟨x0, x1, x2, x3, x4, x5, x6, rfl, hx⟩, b1⟩
      obtain ⟨p3, c3, q3, d3, hv, -, -⟩ := (val_is _ _ _).1 hx
      simp only [Value.agg.injEq, Array.mk.injEq, List.cons.injEq, and_true] at hv
      obtain ⟨rfl, rfl, rfl, rfl, rfl, rfl, rfl⟩ := hv
      rw [← hW2] at hx b1
      have hz2 := HB2.out.size
      have b01 : Below wr.heap.size wr w1 := HB2.out.trans (b1.mono hz2)
      have ho1 := jrow_same HO1.out (fun g' hg' => b01.block g' (HO1.out.lt g' hg').2)
      have y0 : w1.cell? ⟨g, i * 9, none⟩ = some (.string k.key) := by exact (jadd g (i * 9 + 0)) ▸ World.ownsRow.cells ho1 (g := g) rfl (i * 9 + 0) _ (by rw [List.getElem?_append_right (by omega), show i * 9 + 0 - ys.length = 0 by omega]; rfl)
      have y1 : w1.cell? ⟨g, i * 9 + 1, none⟩ = some (.int .i64 k.v.kind) := by exact (jadd g (i * 9 + 1)) ▸ World.ownsRow.cells ho1 (g := g) rfl (i * 9 + 1) _ (by rw [List.getElem?_append_right (by omega), show i * 9 + 1 - ys.length = 1 by omega]; rfl)
      have y2 : w1.cell? ⟨g, i * 9 + 2, none⟩ = some (.bool k.v.b) := by exact (jadd g (i * 9 + 2)) ▸ World.ownsRow.cells ho1 (g := g) rfl (i * 9 + 2) _ (by rw [List.getElem?_append_right (by omega), show i * 9 + 2 - ys.length = 2 by omega]; rfl)
      have y3 : w1.cell? ⟨g, i * 9 + 3, none⟩ = some (.int .i64 k.v.n) := by exact (jadd g (i * 9 + 3)) ▸ World.ownsRow.cells ho1 (g := g) rfl (i * 9 + 3) _ (by rw [List.getElem?_append_right (by omega), show i * 9 + 3 - ys.length = 3 by omega]; rfl)
      have y4 : w1.cell? ⟨g, i * 9 + 4, none⟩ = some (.string k.v.s) := by exact (jadd g (i * 9 + 4)) ▸ World.ownsRow.cells ho1 (g := g) rfl (i * 9 + 4) _ (by rw [List.getElem?_append_right (by omega), show i * 9 + 4 - ys.length = 4 by omega]; rfl)
      have y5 : w1.cell? ⟨g, i * 9 + 5, none⟩ = some (.slice p2 k.v.items.length c2) := by exact (jadd g (i * 9 + 5)) ▸ World.ownsRow.cells ho1 (g := g) rfl (i * 9 + 5) _ (by rw [List.getElem?_append_right (by omega), show i * 9 + 5 - ys.length = 5 by omega]; rfl)
      have y6 : w1.cell? ⟨g, i * 9 + 6, none⟩ = some (.slice q2 k.v.mems.length d2) := by exact (jadd g (i * 9 + 6)) ▸ World.ownsRow.cells ho1 (g := g) rfl (i * 9 + 6) _ (by rw [List.getElem?_append_right (by omega), show i * 9 + 6 - ys.length = 6 by omega]; rfl)
      have y7 : w1.cell? ⟨g, i * 9 + 7, none⟩ = some (.int .i64 k.v.at') := by exact (jadd g (i * 9 + 7)) ▸ World.ownsRow.cells ho1 (g := g) rfl (i * 9 + 7) _ (by rw [List.getElem?_append_right (by omega), show i * 9 + 7 - ys.length = 7 by omega]; rfl)
      have y8 : w1.cell? ⟨g, i * 9 + 8, none⟩ = some (.int .i64 k.at') := by exact (jadd g (i * 9 + 8)) ▸ World.ownsRow.cells ho1 (g := g) rfl (i * 9 + 8) _ (by rw [List.getElem?_append_right (by omega), show i * 9 + 8 - ys.length = 8 by omega]; rfl)
      have r0 : w1.frozen? ⟨g, i * 9, none⟩ = false := ho1.frozenAt _
      have r1 : w1.frozen? ⟨g, i * 9 + 1, none⟩ = false := ho1.frozenAt _
      have r2 : w1.frozen? ⟨g, i * 9 + 2, none⟩ = false := ho1.frozenAt _
      have r3 : w1.frozen? ⟨g, i * 9 + 3, none⟩ = false := ho1.frozenAt _
      have r4 : w1.frozen? ⟨g, i * 9 + 4, none⟩ = false := ho1.frozenAt _
      have r5 : w1.frozen? ⟨g, i * 9 + 5, none⟩ = false := ho1.frozenAt _
      have r6 : w1.frozen? ⟨g, i * 9 + 6, none⟩ = false := ho1.frozenAt _
      have r7 : w1.frozen? ⟨g, i * 9 + 7, none⟩ = false := ho1.frozenAt _
      have r8 : w1.frozen? ⟨g, i * 9 + 8, none⟩ = false := ho1.frozenAt _
      have hput := jrow_put9 ho1 hyl (.string k.key) (.int .i64 k.v.kind) (.bool k.v.b) (.int .i64 k.v.n) (.string k.v.s) (.slice p3 k.v.items.length c3) (.slice q3 k.v.mems.length d3) (.int .i64 k.v.at') (.int .i64 k.at')
      have hv5 := MRow.push (W := (((((((((w1.setCell ⟨g, i * 9, none⟩ (.string k.key)).setCell ⟨g, i * 9 + 1, none⟩ (.int .i64 k.v.kind)).setCell ⟨g, i * 9 + 2, none⟩ (.bool k.v.b)).setCell ⟨g, i * 9 + 3, none⟩ (.int .i64 k.v.n)).setCell ⟨g, i * 9 + 4, none⟩ (.string k.v.s)).setCell ⟨g, i * 9 + 5, none⟩ (.slice p3 k.v.items.length c3)).setCell ⟨g, i * 9 + 6, none⟩ (.slice q3 k.v.mems.length d3)).setCell ⟨g, i * 9 + 7, none⟩ (.int .i64 k.v.at')).setCell ⟨g, i * 9 + 8, none⟩ (.int .i64 k.at'))) (g := g) (m := k) HR1.out hx (by omega) (by omega) b01.size (fun k hk => (HO1.out.lt k hk).2) (.inl rfl) (fun k hk _ => b01.block k hk) (fun kk hk1 _ hne => hput.2.block kk hk1 (fun e => hne e.symm))
      rw [← HCS.out] at hv5
      have HV5 := Lib.hid hv5
      have HO5 := Lib.hid hput.1
      have HB5 := Lib.hid ((HB1.out.trans (b01.mono HB1.out.size)).grown hput.2 (HB1.out.trans (b01.mono HB1.out.size)).size (fun kk hk => by cases hk; exact hBg))
      have hyl5 : (ys ++ ([.string k.key, .int .i64 k.v.kind, .bool k.v.b, .int .i64 k.v.n, .string k.v.s, .slice p3 k.v.items.length c3, .slice q3 k.v.mems.length d3, .int .i64 k.v.at', .int .i64 k.at'] : List Value)).length = (i + 1) * 9 := by simp only [List.length_append, List.length_cons, List.length_nil]; omega
      clear hv5 hput b1 b01 cF hW2 k0 k1 k2 k3 k4 k5 k6 k7 k8 a0 a1 a2 a3 a4 a5 a6 a7 a8 hx ho1
      go_wp2
      go_roundw
      case rel => exact ⟨i + 1, _, zs', hlt, by go_num, hyl5, HO5.out, HV5.out, HZ.out, HB5.out⟩
      case measure => simp [RowKit.intOf]; omega
    · obtain rfl : i = l.length := by omega
      have hiz : ¬ (l.length : Int) < (l.length : Int) := by omega
      rw [List.drop_eq_nil_of_le (Nat.le_refl _), MCel] at hz
      subst hz
      rw [List.append_nil] at ho
      rw [List.take_length] at hr
      have HIT := Lib.hid (MRow.whole ho hr rfl)
      clear ho hr
      go_wp2
      go_ret
      exact ⟨p0, ⟨cap, rfl⟩, HIT.out, hbr⟩
set_option maxRecDepth 100000 in
set_option maxHeartbeats 16000000 in
theorem com_of (m : MemD) (hA : CoAt m.v) : CoMAt m := by
  intro v0 v1 v2 v3 v4 v5 v6 w hn
  obtain ⟨p, c, q, d, hv, hI, hM⟩ := (val_is w m.v _).1 hn
  simp only [Value.agg.injEq, Array.mk.injEq, List.cons.injEq, and_true] at hv
  obtain ⟨rfl, rfl, rfl, rfl, rfl, rfl, rfl⟩ := hv
  obtain ⟨W, hW⟩ : ∃ W, W = ((w.alloc (.cells #[.string m.key, .int .i64 m.v.kind, .bool m.v.b, .int .i64 m.v.n, .string m.v.s, .slice p m.v.items.length c, .slice q m.v.mems.length d, .int .i64 m.v.at', .int .i64 m.at'] 188)).alloc (.cells #[.string ⟨#[]⟩, .int .i64 0, .bool false, .int .i64 0, .string ⟨#[]⟩, .slice none 0 0, .slice none 0 0, .int .i64 0, .int .i64 0] 188)) := ⟨_, rfl⟩
  have hB0 : Bj W w.heap.size #[.string m.key, .int .i64 m.v.kind, .bool m.v.b, .int .i64 m.v.n, .string m.v.s, .slice p m.v.items.length c, .slice q m.v.mems.length d, .int .i64 m.v.at', .int .i64 m.at'] 188 := by rw [hW]; exact Bj.first w _ _ _
  have hB1 : Bj W (w.heap.size + 1) #[.string ⟨#[]⟩, .int .i64 0, .bool false, .int .i64 0, .string ⟨#[]⟩, .slice none 0 0, .slice none 0 0, .int .i64 0, .int .i64 0] 188 := by rw [hW]; exact Bj.second w _ _ _
  have hbw : Below w.heap.size w W := by rw [hW]; exact ((Below.refl _ _).alloc (Nat.le_refl _) _).alloc (by simp) _
  have hzw : W.heap.size = w.heap.size + 2 := by rw [hW]; simp
  have c1 := hA _ W (hn.below hbw)
  have HB0 := Lib.hid hB0
  have HB1 := Lib.hid hB1
  have HBW := Lib.hid hbw
  obtain ⟨⟨f0, f1, f2, f3, f4, f5, f6, f7, f8⟩, -⟩ := hB0.nine
  clear hn hI hM hB0 hB1 hbw hA
  go_enter Tryz.func149, Tryz.ntmps149
  go_upto_region 1 with fail
  simp only [← hW]
  clear hW
  go_wp2_with fail
  refine c1.mono ?_
  rintro e w1 ⟨⟨x, rfl, hx⟩, b1⟩
  obtain ⟨p3, c3, q3, d3, rfl, -, -⟩ := (val_is _ _ _).1 hx
  have hz1 := b1.size
  obtain ⟨⟨g0, g1, g2, g3, g4, g5, g6, g7, g8⟩, ⟨z0, z1, z2, z3, z4, z5, z6, z7, z8⟩⟩ := (HB0.out.more b1).nine
  obtain ⟨⟨h0, h1, h2, h3, h4, h5, h6, h7, h8⟩, ⟨y0, y1, y2, y3, y4, y5, y6, y7, y8⟩⟩ := (HB1.out.more b1).nine
  obtain ⟨W5, hW5⟩ : ∃ W5, W5 = ((((((((((((((((w1.setCell ⟨w.heap.size, 1, none⟩ (.int .i64 m.v.kind)).setCell ⟨w.heap.size, 2, none⟩ (.bool m.v.b)).setCell ⟨w.heap.size, 3, none⟩ (.int .i64 m.v.n)).setCell ⟨w.heap.size, 4, none⟩ (.string m.v.s)).setCell ⟨w.heap.size, 5, none⟩ (.slice p3 m.v.items.length c3)).setCell ⟨w.heap.size, 6, none⟩ (.slice q3 m.v.mems.length d3)).setCell ⟨w.heap.size, 7, none⟩ (.int .i64 m.v.at')).setCell ⟨w.heap.size + 1, 0, none⟩ (.string m.key)).setCell ⟨w.heap.size + 1, 1, none⟩ (.int .i64 m.v.kind)).setCell ⟨w.heap.size + 1, 2, none⟩ (.bool m.v.b)).setCell ⟨w.heap.size + 1, 3, none⟩ (.int .i64 m.v.n)).setCell ⟨w.heap.size + 1, 4, none⟩ (.string m.v.s)).setCell ⟨w.heap.size + 1, 5, none⟩ (.slice p3 m.v.items.length c3)).setCell ⟨w.heap.size + 1, 6, none⟩ (.slice q3 m.v.mems.length d3)).setCell ⟨w.heap.size + 1, 7, none⟩ (.int .i64 m.v.at')).setCell ⟨w.heap.size + 1, 8, none⟩ (.int .i64 m.at')) := ⟨_, rfl⟩
  have hb5 : ∀ k, k ≠ w.heap.size → k ≠ w.heap.size + 1 → W5.heap[k]? = w1.heap[k]? := fun k hk1 hk2 => by rw [hW5, Below.heap_setCell _ _ _ _ hk2, Below.heap_setCell _ _ _ _ hk2, Below.heap_setCell _ _ _ _ hk2, Below.heap_setCell _ _ _ _ hk2, Below.heap_setCell _ _ _ _ hk2, Below.heap_setCell _ _ _ _ hk2, Below.heap_setCell _ _ _ _ hk2, Below.heap_setCell _ _ _ _ hk2, Below.heap_setCell _ _ _ _ hk2, Below.heap_setCell _ _ _ _ hk1, Below.heap_setCell _ _ _ _ hk1, Below.heap_setCell _ _ _ _ hk1, Below.heap_setCell _ _ _ _ hk1, Below.heap_setCell _ _ _ _ hk1, Below.heap_setCell _ _ _ _ hk1, Below.heap_setCell _ _ _ _ hk1]
  have h9 : Below w.heap.size w w1 := HBW.out.trans (b1.mono (by omega))
  have hB5 : Below w.heap.size w W5 := by
    rw [hW5]
    exact ((((((((((((((((h9.setCell (p := ⟨w.heap.size, 1, none⟩) (Nat.le_refl _) _).setCell (p := ⟨w.heap.size, 2, none⟩) (Nat.le_refl _) _).setCell (p := ⟨w.heap.size, 3, none⟩) (Nat.le_refl _) _).setCell (p := ⟨w.heap.size, 4, none⟩) (Nat.le_refl _) _).setCell (p := ⟨w.heap.size, 5, none⟩) (Nat.le_refl _) _).setCell (p := ⟨w.heap.size, 6, none⟩) (Nat.le_refl _) _).setCell (p := ⟨w.heap.size, 7, none⟩) (Nat.le_refl _) _).setCell (p := ⟨w.heap.size + 1, 0, none⟩) (Nat.le_succ _) _).setCell (p := ⟨w.heap.size + 1, 1, none⟩) (Nat.le_succ _) _).setCell (p := ⟨w.heap.size + 1, 2, none⟩) (Nat.le_succ _) _).setCell (p := ⟨w.heap.size + 1, 3, none⟩) (Nat.le_succ _) _).setCell (p := ⟨w.heap.size + 1, 4, none⟩) (Nat.le_succ _) _).setCell (p := ⟨w.heap.size + 1, 5, none⟩) (Nat.le_succ _) _).setCell (p := ⟨w.heap.size + 1, 6, none⟩) (Nat.le_succ _) _).setCell (p := ⟨w.heap.size + 1, 7, none⟩) (Nat.le_succ _) _).setCell (p := ⟨w.heap.size + 1, 8, none⟩) (Nat.le_succ _) _)
  have HR := Lib.hid (show ValIs (sans W5 (low w.heap.size)) m.v (.agg #[.int .i64 m.v.kind, .bool m.v.b, .int .i64 m.v.n, .string m.v.s, .slice p3 m.v.items.length c3, .slice q3 m.v.mems.length d3, .int .i64 m.v.at']) from hx.go (fun k hk hn => by
    have hkn := low_no hn
    exact ⟨low_ok (by omega), hb5 k (by omega) (by omega)⟩))
  have HB5 := Lib.hid hB5
  rw [hW5] at HR HB5
  clear hW5 hb5 hx hB5 c1 b1 h9 f0 f1 f2 f3 f4 f5 f6 f7 f8
  go_wp2
  refine bodyPost_ret (v := .agg #[.string m.key, .int .i64 m.v.kind, .bool m.v.b, .int .i64 m.v.n, .string m.v.s, .slice p3 m.v.items.length c3, .slice q3 m.v.mems.length d3, .int .i64 m.v.at', .int .i64 m.at']) (by simp [results, Tryz.results149, go_sem, jset_same, h0, h1, h2, h3, h4, h5, h6, h7, h8]) rfl ⟨⟨_, _, _, _, _, _, _, rfl, HR.out⟩, HB5.out⟩
set_option maxRecDepth 100000 in
set_option maxHeartbeats 16000000 in
theorem co_step (f : Nat) (IH : ∀ n : ValD, n.bulk ≤ f → n.bulk ≤ 1000000 → CoAt n) (IM : ∀ m : MemD, m.v.bulk ≤ f → m.v.bulk ≤ 1000000 → CoMAt m) (n : ValD) (hf : n.bulk ≤ f + 1) (hc : n.bulk ≤ 1000000) : CoAt n := by
  intro v w hn
  have hbe := vbulk_eq n
  have hil : n.items.length ≤ 1000000 := by have := bulkVs_len n.items; omega
  have hml : n.mems.length ≤ 1000000 := by have := bulkMs_len n.mems; omega
  obtain ⟨p, c, q, d, rfl, hI, hM⟩ := (val_is w n v).1 hn
  have cI : ∀ wx, ItemsAt wx p 0 n.items → _ := fun wx hi => jw_copiesV n.items (fun k hk => IH k (by have := bulk_item n k hk; omega) (by have := bulk_item n k hk; omega)) p c wx hi hil
  have cM : ∀ wx, MemsAt wx q 0 n.mems → _ := fun wx hi => jw_copiesM n.mems (fun m hm => IM m (by have := bulk_mem n m hm; omega) (by have := bulk_mem n m hm; omega)) q d wx hi hml
  obtain ⟨W, hW⟩ : ∃ W, W = ((w.alloc (.cells #[.int .i64 n.kind, .bool n.b, .int .i64 n.n, .string n.s, .slice p n.items.length c, .slice q n.mems.length d, .int .i64 n.at'] 119)).alloc (.cells #[.int .i64 0, .bool false, .int .i64 0, .string ⟨#[]⟩, .slice none 0 0, .slice none 0 0, .int .i64 0] 119)) := ⟨_, rfl⟩
  have hB0 : Bj W w.heap.size #[.int .i64 n.kind, .bool n.b, .int .i64 n.n, .string n.s, .slice p n.items.length c, .slice q n.mems.length d, .int .i64 n.at'] 119 := by rw [hW]; exact Bj.first w _ _ _
  have hB1 : Bj W (w.heap.size + 1) #[.int .i64 0, .bool false, .int .i64 0, .string ⟨#[]⟩, .slice none 0 0, .slice none 0 0, .int .i64 0] 119 := by rw [hW]; exact Bj.second w _ _ _
  have hbw : Below w.heap.size w W := by rw [hW]; exact ((Below.refl _ _).alloc (Nat.le_refl _) _).alloc (by simp) _
  have hzw : W.heap.size = w.heap.size + 2 := by rw [hW]; simp
  have c1 := cI W (hI.below hbw)
  have HB0 := Lib.hid hB0
  have HB1 := Lib.hid hB1
  have HBW := Lib.hid hbw
  have HM := Lib.hid hM
  obtain ⟨⟨f0, f1, f2, f3, f4, f5, f6⟩, -⟩ := hB0.seven
  clear hn hI hM hbe hf hc cI hB0 hB1 hbw IH IM
  generalize hk : n.kind = kd at *
  generalize hb : n.b = bb at *
  generalize hnn : n.n = nn at *
  generalize hs : n.s = ss at *
  generalize hi : n.items = items at *
  generalize hm : n.mems = mems at *
  generalize ha : n.at' = aa at *
  have HNN := Lib.hid (show n = .mk kd bb nn ss items mems aa by rw [← hk, ← hb, ← hnn, ← hs, ← hi, ← hm, ← ha]; cases n; rfl)
  clear hk hb hnn hs hi hm ha
  go_enter Tryz.func127, Tryz.ntmps127
  go_upto_region 1 with fail
  simp only [← hW]
  clear hW
  go_wp2_with fail
  refine c1.mono ?_
  rintro e w1 ⟨p1, c1', rfl, hI1, b1⟩
  have hz1 := b1.size
  have B1 := HB0.out.more b1
  obtain ⟨⟨g0, g1, g2, g3, g4, g5, g6⟩, ⟨z0, z1, z2, z3, z4, z5, z6⟩⟩ := B1.seven
  have Ba := B1.set 4 (.slice p1 items.length c1')
  simp only [List.setIfInBounds_toArray, List.set_cons_zero, List.set_cons_succ] at Ba
  obtain ⟨W2, hW2⟩ : ∃ W2, W2 = w1.setCell ⟨w.heap.size, 4, none⟩ (.slice p1 items.length c1') := ⟨_, rfl⟩
  have hbW : ∀ k, k ≠ w.heap.size → W2.heap[k]? = w1.heap[k]? := fun k hk => by rw [hW2]; exact Below.heap_setCell _ _ _ _ hk
  have hz2 : W2.heap.size = w1.heap.size := by rw [hW2]; simp [World.setCell]
  rw [← hW2] at Ba
  have hbw1 : Below w.heap.size w w1 := HBW.out.trans (b1.mono (by omega))
  have hbw2 : Below w.heap.size w W2 := by rw [hW2]; exact hbw1.setCell (Nat.le_refl _) _
  have c2 := cM W2 (HM.out.below hbw2)
  have c2 := fun (wx : World) (hx : wx = W2) => (show Calls Tryz.prog 148 _ wx _ from hx ▸ c2)
  have HBa := Lib.hid Ba
  have HBb := Lib.hid (show Bj W2 (w.heap.size + 1) #[.int .i64 0, .bool false, .int .i64 0, .string ⟨#[]⟩, .slice none 0 0, .slice none 0 0, .int .i64 0] 119 from (hbW _ (by omega)).trans (HB1.out.more b1))
  have HI1 := Lib.hid hI1
  have HBW2 := Lib.hid hbw2
  have hw21 : ∀ k, k ≠ w.heap.size → W2.heap[k]? = w1.heap[k]? := hbW
  have HW21 := Lib.hid hw21
  clear c1 cM B1 hI1 hbw1 hbw2 Ba b1 hbW hw21 z0 z1 z2 z3 z5 z6 f0 f1 f2 f3 f4 f5 f6
  go_wp2_with fail
  refine (c2 _ hW2.symm).mono ?_
  rintro e w3 ⟨q3, d3, rfl, hM3, b3⟩
  rw [← hW2] at hM3 b3
  have hz3 := b3.size
  have B3 := HBa.out.more b3
  have B4 := HBb.out.more b3
  obtain ⟨⟨e0, e1, e2, e3, e4, e5, e6⟩, ⟨x0, x1, x2, x3, x4, x5, x6⟩⟩ := B3.seven
  obtain ⟨⟨h0, h1, h2, h3, h4, h5, h6⟩, ⟨y0, y1, y2, y3, y4, y5, y6⟩⟩ := B4.seven
  obtain ⟨W5, hW5⟩ : ∃ W5, W5 = ((((((((w3.setCell ⟨w.heap.size, 5, none⟩ (.slice q3 mems.length d3)).setCell ⟨w.heap.size + 1, 0, none⟩ (.int .i64 kd)).setCell ⟨w.heap.size + 1, 1, none⟩ (.bool bb)).setCell ⟨w.heap.size + 1, 2, none⟩ (.int .i64 nn)).setCell ⟨w.heap.size + 1, 3, none⟩ (.string ss)).setCell ⟨w.heap.size + 1, 4, none⟩ (.slice p1 items.length c1')).setCell ⟨w.heap.size + 1, 5, none⟩ (.slice q3 mems.length d3)).setCell ⟨w.heap.size + 1, 6, none⟩ (.int .i64 aa)) := ⟨_, rfl⟩
  have hb5 : ∀ k, k ≠ w.heap.size → k ≠ w.heap.size + 1 → W5.heap[k]? = w3.heap[k]? := fun k hk1 hk2 => by rw [hW5, Below.heap_setCell _ _ _ _ hk2, Below.heap_setCell _ _ _ _ hk2, Below.heap_setCell _ _ _ _ hk2, Below.heap_setCell _ _ _ _ hk2, Below.heap_setCell _ _ _ _ hk2, Below.heap_setCell _ _ _ _ hk2, Below.heap_setCell _ _ _ _ hk2, Below.heap_setCell _ _ _ _ hk1]
  have hI5 : ItemsAt (sans W5 (low w.heap.size)) p1 0 items := ItemsAt.mono (fun a v ha => Gos.cell (w := w1) (X := low W.heap.size) (fun k hk hn => by
    have hkn := low_no hn
    exact ⟨low_ok (by omega), (hb5 k (by omega) (by omega)).trans ((b3.block k (by omega)).trans (HW21.out k (by omega)))⟩) a v ha) _ _ _ HI1.out
  have hM5 : MemsAt (sans W5 (low w.heap.size)) q3 0 mems := MemsAt.mono (fun a v ha => Gos.cell (w := w3) (X := low W2.heap.size) (fun k hk hn => by
    have hkn := low_no hn
    exact ⟨low_ok (by omega), hb5 k (by omega) (by omega)⟩) a v ha) _ _ _ hM3
  have hB5 : Below w.heap.size w W5 := by
    have h9 : Below w.heap.size w w3 := HBW2.out.trans (b3.mono (by omega))
    rw [hW5]
    exact ((((((((h9.setCell (p := ⟨w.heap.size, 5, none⟩) (Nat.le_refl _) _).setCell (p := ⟨w.heap.size + 1, 0, none⟩) (Nat.le_succ _) _).setCell (p := ⟨w.heap.size + 1, 1, none⟩) (Nat.le_succ _) _).setCell (p := ⟨w.heap.size + 1, 2, none⟩) (Nat.le_succ _) _).setCell (p := ⟨w.heap.size + 1, 3, none⟩) (Nat.le_succ _) _).setCell (p := ⟨w.heap.size + 1, 4, none⟩) (Nat.le_succ _) _).setCell (p := ⟨w.heap.size + 1, 5, none⟩) (Nat.le_succ _) _).setCell (p := ⟨w.heap.size + 1, 6, none⟩) (Nat.le_succ _) _)
  have HR := Lib.hid (show ValIs (sans W5 (low w.heap.size)) n (.agg #[.int .i64 kd, .bool bb, .int .i64 nn, .string ss, .slice p1 items.length c1', .slice q3 mems.length d3, .int .i64 aa]) by
    rw [HNN.out, val_is]
    exact ⟨p1, c1', q3, d3, rfl, hI5, hM5⟩)
  have HB5 := Lib.hid hB5
  rw [hW5] at HR HB5
  clear hW5 hb5 hI5 hM5 hB5 c2 hW2 b3 hM3 B3 B4 g0 g1 g2 g3 g4 g5 g6 z4
  go_wp2
  refine bodyPost_ret (v := .agg #[.int .i64 kd, .bool bb, .int .i64 nn, .string ss, .slice p1 items.length c1', .slice q3 mems.length d3, .int .i64 aa]) (by simp [results, Tryz.results127, go_sem, jset_same, h0, h1, h2, h3, h4, h5, h6]) rfl ⟨⟨_, rfl, HR.out⟩, HB5.out⟩
theorem co_all : ∀ (f : Nat) (n : ValD), n.bulk ≤ f → n.bulk ≤ 1000000 → CoAt n
  | 0, n, hf, _ => absurd (bulk_pos n) (by omega)
  | f + 1, n, hf, hc => co_step f (co_all f) (fun m h1 h2 => com_of m (co_all f m.v h1 h2)) n hf hc
end Go.Proofs.YtbfalppeifkjdaaGreatDoor
end
section
namespace Go.Proofs.YtbfalppeifkjdaaGreatDoor
open Go.RowKit
theorem ItemsAt_nil (w : World) (p : Option Addr) (i : Nat) : ItemsAt w p i [] = True := by rw [ItemsAt]
theorem MemsAt_nil (w : World) (p : Option Addr) (i : Nat) : MemsAt w p i [] = True := by rw [MemsAt]
set_option maxRecDepth 100000 in
set_option maxHeartbeats 4000000 in
theorem jw_IntV (n : Int) (w : World) : Calls Tryz.prog 87 #[.int .i64 n] w fun e w' => (∃ x, e = .returned x ∧ ValIs (sans w' (low w.heap.size)) (.mk 2 false n ⟨#[]⟩ [] [] 0) x) ∧ Below w.heap.size w w' := by
  have HB5 := Lib.hid (fun o : Obj => show Below w.heap.size w (w.alloc o) from (Below.refl _ _).alloc (Nat.le_refl _) o)
  go_enter Tryz.func87, Tryz.ntmps87
  go_wp2
  refine bodyPost_ret (v := .agg #[.int .i64 2, .bool false, .int .i64 n, .string ⟨#[]⟩, .slice none 0 0, .slice none 0 0, .int .i64 0]) (by simp [results, Tryz.results87, go_sem]) rfl ⟨⟨_, rfl, ?_⟩, HB5.out _⟩
  rw [val_is]
  exact ⟨none, 0, none, 0, rfl, of_eq_true (ItemsAt_nil _ _ _), of_eq_true (MemsAt_nil _ _ _)⟩
set_option maxRecDepth 100000 in
set_option maxHeartbeats 4000000 in
theorem jw_String (s : ByteArray) (w : World) : Calls Tryz.prog 103 #[.string s] w fun e w' => (∃ x, e = .returned x ∧ ValIs (sans w' (low w.heap.size)) (.mk 3 false 0 s [] [] 0) x) ∧ Below w.heap.size w w' := by
  have HB5 := Lib.hid (fun o : Obj => show Below w.heap.size w (w.alloc o) from (Below.refl _ _).alloc (Nat.le_refl _) o)
  go_enter Tryz.func103, Tryz.ntmps103
  go_wp2
  refine bodyPost_ret (v := .agg #[.int .i64 3, .bool false, .int .i64 0, .string s, .slice none 0 0, .slice none 0 0, .int .i64 0]) (by simp [results, Tryz.results103, go_sem]) rfl ⟨⟨_, rfl, ?_⟩, HB5.out _⟩
  rw [val_is]
  exact ⟨none, 0, none, 0, rfl, of_eq_true (ItemsAt_nil _ _ _), of_eq_true (MemsAt_nil _ _ _)⟩
set_option maxRecDepth 100000 in
set_option maxHeartbeats 4000000 in
theorem jw_Array (l : List ValD) (hA : ∀ k ∈ l, k.bulk ≤ 1000000) (p : Option Addr) (c : Nat) (w : World) (hI : ItemsAt w p 0 l) (hl : l.length ≤ 1000000) : Calls Tryz.prog 102 #[.slice p l.length c] w fun e w' => (∃ x, e = .returned x ∧ ValIs (sans w' (low w.heap.size)) (.mk 4 false 0 ⟨#[]⟩ l [] 0) x) ∧ Below w.heap.size w w' := by
  obtain ⟨W, hW⟩ : ∃ W, W = w.alloc (.cells #[.int .i64 0, .bool false, .int .i64 0, .string ⟨#[]⟩, .slice none 0 0, .slice none 0 0, .int .i64 0] 119) := ⟨_, rfl⟩
  have hB0 : Bj W w.heap.size #[.int .i64 0, .bool false, .int .i64 0, .string ⟨#[]⟩, .slice none 0 0, .slice none 0 0, .int .i64 0] 119 := by rw [hW]; exact Bj.new w _ _
  have hbw : Below w.heap.size w W := by rw [hW]; exact (Below.refl _ _).alloc (Nat.le_refl _) _
  have hzw : W.heap.size = w.heap.size + 1 := by rw [hW]; simp
  have c1 := jw_copiesV l (fun k hk => co_all k.bulk k (Nat.le_refl _) (hA k hk)) p c W (hI.below hbw) hl
  have HB0 := Lib.hid hB0
  have HBW := Lib.hid hbw
  clear hB0 hbw hI hA
  go_enter Tryz.func102, Tryz.ntmps102
  go_upto_region 1 with fail
  simp only [← hW]
  clear hW
  go_wp2_with fail
  refine c1.mono ?_
  rintro e w1 ⟨p1, c1, rfl, hI1, b1⟩
  have hz1 := b1.size
  obtain ⟨⟨h0, h1, h2, h3, h4, h5, h6⟩, ⟨y0, y1, y2, y3, y4, y5, y6⟩⟩ := (HB0.out.more b1).seven
  obtain ⟨W5, hW5⟩ : ∃ W5, W5 = (((((((w1.setCell ⟨w.heap.size, 0, none⟩ (.int .i64 4)).setCell ⟨w.heap.size, 1, none⟩ (.bool false)).setCell ⟨w.heap.size, 2, none⟩ (.int .i64 0)).setCell ⟨w.heap.size, 3, none⟩ (.string ⟨#[]⟩)).setCell ⟨w.heap.size, 4, none⟩ (.slice p1 l.length c1)).setCell ⟨w.heap.size, 5, none⟩ (.slice none 0 0)).setCell ⟨w.heap.size, 6, none⟩ (.int .i64 0)) := ⟨_, rfl⟩
  have hb5 : ∀ k, k ≠ w.heap.size → W5.heap[k]? = w1.heap[k]? := fun k hk => by rw [hW5, Below.heap_setCell _ _ _ _ hk, Below.heap_setCell _ _ _ _ hk, Below.heap_setCell _ _ _ _ hk, Below.heap_setCell _ _ _ _ hk, Below.heap_setCell _ _ _ _ hk, Below.heap_setCell _ _ _ _ hk, Below.heap_setCell _ _ _ _ hk]
  have h9 : Below w.heap.size w w1 := HBW.out.trans (b1.mono (by omega))
  have hB5 : Below w.heap.size w W5 := by
    rw [hW5]
    exact (((((((h9.setCell (p := ⟨w.heap.size, 0, none⟩) (Nat.le_refl _) _).setCell (p := ⟨w.heap.size, 1, none⟩) (Nat.le_refl _) _).setCell (p := ⟨w.heap.size, 2, none⟩) (Nat.le_refl _) _).setCell (p := ⟨w.heap.size, 3, none⟩) (Nat.le_refl _) _).setCell (p := ⟨w.heap.size, 4, none⟩) (Nat.le_refl _) _).setCell (p := ⟨w.heap.size, 5, none⟩) (Nat.le_refl _) _).setCell (p := ⟨w.heap.size, 6, none⟩) (Nat.le_refl _) _)
  have hI5 : ItemsAt (sans W5 (low w.heap.size)) p1 0 l := ItemsAt.mono (fun a v ha => Gos.cell (w := w1) (X := low W.heap.size) (fun k hk hn => by
    have hkn := low_no hn
    exact ⟨low_ok (by omega), hb5 k (by omega)⟩) a v ha) _ _ _ hI1
  have HR := Lib.hid (show ValIs (sans W5 (low w.heap.size)) (.mk 4 false 0 ⟨#[]⟩ l [] 0) (.agg #[.int .i64 4, .bool false, .int .i64 0, .string ⟨#[]⟩, .slice p1 l.length c1, .slice none 0 0, .int .i64 0]) by
    rw [val_is]
    exact ⟨p1, c1, none, 0, rfl, hI5, of_eq_true (MemsAt_nil _ _ _)⟩)
  have HB5 := Lib.hid hB5
  rw [hW5] at HR HB5
  clear hW5 hb5 hI5 hB5 b1 h9 hI1
  go_wp2
  exact bodyPost_ret (v := .agg #[.int .i64 4, .bool false, .int .i64 0, .string ⟨#[]⟩, .slice p1 l.length c1, .slice none 0 0, .int .i64 0]) (by simp [results, Tryz.results102, go_sem, jset_same, h0, h1, h2, h3, h4, h5, h6]) rfl ⟨⟨_, rfl, HR.out⟩, HB5.out⟩
end Go.Proofs.YtbfalppeifkjdaaGreatDoor
end
