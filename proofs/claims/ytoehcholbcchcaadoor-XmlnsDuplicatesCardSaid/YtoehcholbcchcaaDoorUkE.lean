/- Packed from the texts BuiM TreY. -/
import Derived.Test.YtoehcholbcchcaaDoorUTextE
import Derived.Test.YtoehcholbcchcaaDoorUkD
import Derived.Deep.RegionWith
import Derived.BigRegion
section
namespace Go.Proofs.YtoehcholbcchcaaDoor
open Go.RowKit
theorem zero_le7 (w : World) : NodeIs w zeroN zeroV := zero_is w
end Go.Proofs.YtoehcholbcchcaaDoor
end
section
namespace Go.Proofs.YtoehcholbcchcaaDoor
open Go.RowKit
def ElC (l : List TokD) (z : Int) (F : Nat) : Prop := ∀ (d i p : Nat) (A : Option Addr) (ct : Nat) (a0 : Int) (w : World), i < l.length → 2 * (l.length - i) ≤ F → d ≤ 101 → Par w p A l.length ct (i : Int) a0 0 → TokensAt (holes w [p]) A l →
  Calls Tryd.prog 48 #[.pointer (some ⟨p, 0, none⟩), .int .i64 (d : Int), .int .i64 z] w fun e w' => ElIs w p A l.length ct l a0 (elP l z F d i) e w'
theorem tok_attrs {w : World} {l : List TokD} {i : Nat} (hi : i < l.length) {ad : Addr} {qa : Option Addr} {ca : Nat} {p : Nat} (b2 : w.cell? ((ad.add (i * 6)).add 2) = some (.slice qa l[i].al.length ca)) {L : List Nat} (hL : LeftOut w p (some ad) l L) : AttrsAt (holes w L) qa l[i].al := by
  obtain ⟨a', q', c', ha, ⟨_, _, e2, _⟩, hA'⟩ := hL.2.2 i hi
  injection ha with ha
  subst ha
  have e3 := (holes_cell e2).1.symm.trans b2
  injection e3 with e3
  injection e3 with e3
  rw [← e3]
  exact hA'
theorem el_bound (l : List TokD) (z : Int) : ∀ F : Nat, (∀ d i, i < l.length → 2 * (l.length - i) ≤ F → (elP l z F d i).2.2.2 = 0 → i < (elP l z F d i).2.1 ∧ (elP l z F d i).2.1 ≤ l.length ∧ (elP l z F d i).1.tx.size = 0) ∧
    (∀ d t i kids, i ≤ l.length → 2 * (l.length - i) + 1 ≤ F → (kidsP l z F d t i kids).2.2.2 = 0 → i < (kidsP l z F d t i kids).2.1 ∧ (kidsP l z F d t i kids).2.1 ≤ l.length ∧ (kidsP l z F d t i kids).1.tx.size = 0)
  | 0 => ⟨fun d i h hF _ => absurd hF (by omega), fun d t i kids h hF _ => absurd hF (by omega)⟩
  | F + 1 => by
    obtain ⟨IH1, IH2⟩ := el_bound l z F
    refine ⟨fun d i hi hF he => ?_, fun d t i kids hi hF he => ?_⟩
    · rw [elP, List.getElem?_eq_getElem hi] at he ⊢
      simp only at he ⊢
      split
      · rename_i h1
        rw [if_pos h1] at he
        exact absurd (show (9 : Int) = 0 from he) (by decide)
      · rename_i h1
        rw [if_neg h1] at he
        split
        · exact ⟨Nat.lt_succ_self i, hi, rfl⟩
        · rename_i h2
          rw [if_neg h2] at he
          have := IH2 d l[i] (i + 1) [] (by omega) (by omega) he
          omega
    · rw [kidsP] at he ⊢
      cases hu : l[i]? with
      | none => rw [hu] at he; exact absurd (show (8 : Int) = 0 from he) (by decide)
      | some u =>
        have hlt := (List.getElem?_eq_some_iff.1 hu).1
        rw [hu] at he
        simp only at he ⊢
        split
        · rename_i h1
          rw [if_pos h1] at he
          split
          · rename_i h2
            rw [if_pos h2] at he
            exact absurd (show (14 : Int) = 0 from he) (by decide)
          · exact ⟨Nat.lt_succ_self i, hlt, rfl⟩
        · rename_i h1
          rw [if_neg h1] at he
          split
          · rename_i h2
            rw [if_pos h2] at he
            split
            · rename_i h3
              rw [if_pos h3] at he
              exact absurd he h3
            · rename_i h3
              rw [if_neg h3] at he
              have h4 := IH1 (d + 1) i hlt (by omega) (Classical.byContradiction h3)
              have := IH2 d t _ _ h4.2.1 (by omega) he
              omega
          · rename_i h2
            rw [if_neg h2] at he
            have := IH2 d t (i + 1) _ (by omega) (by omega) he
            omega
theorem char_is (w : World) (u : TokD) : NodeIs w (charN u) (.agg #[.int .i64 1, .string ⟨#[]⟩, .string ⟨#[]⟩, .slice none 0 0, .slice none 0 0, .string (ofBytes u.tx), .int .i64 u.at']) := by
  rw [charN, NodeIs]
  exact ⟨none, 0, none, 0, rfl, fun i h => absurd h (Nat.not_lt_zero _), by rw [KidsAt]; trivial⟩
theorem addChar_more (ks : List NodeD) (k : NodeD) (u : TokD) (h : k.kind = 1) : addChar (ks ++ [k]) u = ks ++ [moreN u k] := by
  unfold addChar
  rw [List.getLast?_concat]
  simp only
  rw [if_pos h, List.dropLast_concat]
theorem addChar_new (ks : List NodeD) (k : NodeD) (u : TokD) (h : ¬ k.kind = 1) : addChar (ks ++ [k]) u = ks ++ [k] ++ [charN u] := by
  unfold addChar
  rw [List.getLast?_concat]
  simp only
  rw [if_neg h]
theorem moreN_tx (u : TokD) (k : NodeD) : (moreN u k).tx.size = k.tx.size + u.tx.length := by
  cases k
  show (_ ++ ofBytes u.tx).size = _
  rw [ByteArray.size_append, ofBytes_size]
  rfl
theorem sevK2 (R : Nat) (w : World) (u0 u1 u2 u3 u4 u5 u6 : Value) : Keep R w (((((((w.setCell ⟨R, 0, none⟩ u0).setCell ⟨R, 1, none⟩ u1).setCell ⟨R, 2, none⟩ u2).setCell ⟨R, 3, none⟩ u3).setCell ⟨R, 4, none⟩ u4).setCell ⟨R, 5, none⟩ u5).setCell ⟨R, 6, none⟩ u6) := (((((((Keep.refl R w).set 0 u0).set 1 u1).set 2 u2).set 3 u3).set 4 u4).set 5 u5).set 6 u6
theorem par_sev {w : World} {p : Nat} {A : Option Addr} {n c : Nat} {i a e : Int} (h : Par w p A n c i a e) {R : Nat} (hR : R ≠ p) (u0 u1 u2 u3 u4 u5 u6 : Value) : Par (((((((w.setCell ⟨R, 0, none⟩ u0).setCell ⟨R, 1, none⟩ u1).setCell ⟨R, 2, none⟩ u2).setCell ⟨R, 3, none⟩ u3).setCell ⟨R, 4, none⟩ u4).setCell ⟨R, 5, none⟩ u5).setCell ⟨R, 6, none⟩ u6) p A n c i a e :=
  ((((((h.own (q := ⟨R, 0, none⟩) hR _).own (q := ⟨R, 1, none⟩) hR _).own (q := ⟨R, 2, none⟩) hR _).own (q := ⟨R, 3, none⟩) hR _).own (q := ⟨R, 4, none⟩) hR _).own (q := ⟨R, 5, none⟩) hR _).own (q := ⟨R, 6, none⟩) hR _
theorem keep_sev {p R : Nat} {w0 w : World} (h : Keep p w0 w) (hR : w0.heap.size ≤ R) (u0 u1 u2 u3 u4 u5 u6 : Value) : Keep p w0 (((((((w.setCell ⟨R, 0, none⟩ u0).setCell ⟨R, 1, none⟩ u1).setCell ⟨R, 2, none⟩ u2).setCell ⟨R, 3, none⟩ u3).setCell ⟨R, 4, none⟩ u4).setCell ⟨R, 5, none⟩ u5).setCell ⟨R, 6, none⟩ u6) :=
  ((((((h.own (q := ⟨R, 0, none⟩) hR _).own (q := ⟨R, 1, none⟩) hR _).own (q := ⟨R, 2, none⟩) hR _).own (q := ⟨R, 3, none⟩) hR _).own (q := ⟨R, 4, none⟩) hR _).own (q := ⟨R, 5, none⟩) hR _).own (q := ⟨R, 6, none⟩) hR _
set_option maxRecDepth 100000 in
set_option maxHeartbeats 32000000 in
theorem el_step (l : List TokD) (z : Int) (hln : l.length ≤ 10000) (htx : ∀ u ∈ l, u.tx.length ≤ 100050004) (F : Nat) (IH : ∀ G, G ≤ F → ElC l z G) : ElC l z (F + 1) := by
  intro d i p A ct a0 w hi hf hd hP hT
  have HTX := Lib.hid htx
  have HLO0 := Lib.hid (show LeftOut w p A l [p] from ⟨fun b hb => by rw [List.mem_singleton.1 hb]; exact hP.lt, by simp, hT⟩)
  clear htx
  have hpz := hP.lt
  obtain ⟨ad, qa, ca, rfl, ⟨b0, b1, b2, b3, b4, b5⟩, -⟩ := hT i hi
  replace b0 := (holes_cell b0).1
  replace b1 := (holes_cell b1).1
  replace b2 := (holes_cell b2).1
  replace b3 := (holes_cell b3).1
  replace b4 := (holes_cell b4).1
  replace b5 := (holes_cell b5).1
  have HAL := Lib.hid (fun L hL => tok_attrs hi (p := p) b2 (L := L) hL)
  have hE : elP l z (F + 1) d i = if d > 100 then (zeroN, i, l[i].at', 9) else if l[i].em then (elemN l[i] [], i + 1, 0, 0) else kidsP l z F d l[i] (i + 1) [] := by
    rw [elP, List.getElem?_eq_getElem hi]
  obtain ⟨t, ht⟩ : ∃ t, l[i] = t := ⟨_, rfl⟩
  rw [ht] at b0 b1 b2 b3 b4 b5 HAL hE
  generalize elP l z (F + 1) d i = R at hE ⊢
  have HE := Lib.hid hE
  have HT := Lib.hid hT
  have HP := Lib.hid hP
  obtain ⟨cc, hcc⟩ : ∃ cc, ad.add (i * 6) = cc := ⟨_, rfl⟩
  rw [hcc] at b0 b1 b2 b3 b4 b5
  simp only [Addr.add, Nat.reduceEqDiff, ↓reduceIte] at b1 b2 b3 b4 b5
  obtain ⟨W0, hW0⟩ : ∃ W0, W0 = w.alloc (.cells nodeZs 29) := ⟨_, rfl⟩
  have P0 : Blk W0 w.heap.size nodeZs 29 := by rw [hW0]; exact Blk.new w _ _
  have B0 : Below w.heap.size w W0 := by rw [hW0]; exact (Below.refl _ _).alloc (Nat.le_refl _) _
  have hPc := hP.cells
  have c0 := (B0.cell (p := ⟨p, 0, none⟩) hpz).trans hPc.1
  have c1 := (B0.cell (p := ⟨p, 1, none⟩) hpz).trans hPc.2.1
  have hzc := kblock_lt b0
  replace b0 := (B0.cell (kblock_lt b0)).trans b0
  replace b1 := (B0.cell (kblock_lt b1)).trans b1
  replace b2 := (B0.cell (kblock_lt b2)).trans b2
  replace b3 := (B0.cell (kblock_lt b3)).trans b3
  replace b4 := (B0.cell (kblock_lt b4)).trans b4
  replace b5 := (B0.cell (kblock_lt b5)).trans b5
  have hz0 : W0.heap.size = w.heap.size + 1 := by rw [hW0]; simp
  have hiz : (i : Int) < (l.length : Int) := by omega
  have hi0 : (0 : Int) ≤ (i : Int) := by omega
  have HP0 := Lib.hid P0
  have HB0 := Lib.hid B0
  clear hE hT hP hPc P0 B0
  go_enter Tryd.func48, Tryd.ntmps48
  go_upto_region 1 with fail
  simp only [nodeZs] at hW0
  simp only [← hW0]
  clear hW0
  have hSB : ∀ w', Below W0.heap.size W0 w' → (w'.cell? ⟨p, 0, none⟩ = some (.slice (some ad) l.length ct) ∧ w'.cell? ⟨p, 1, none⟩ = some (.int .i64 (i : Int)) ∧ w'.cell? cc = some (.int .i64 t.kind) ∧ w'.cell? ⟨cc.block, cc.off + 1, none⟩ = some (.string (ofBytes t.nm)) ∧ w'.cell? ⟨cc.block, cc.off + 2, none⟩ = some (.slice qa t.al.length ca) ∧ w'.cell? ⟨cc.block, cc.off + 3, none⟩ = some (.bool t.em) ∧ w'.cell? ⟨cc.block, cc.off + 4, none⟩ = some (.string (ofBytes t.tx)) ∧ w'.cell? ⟨cc.block, cc.off + 5, none⟩ = some (.int .i64 t.at')) := fun w' hb => ⟨(hb.cell (kblock_lt c0)).trans c0, (hb.cell (kblock_lt c1)).trans c1, (hb.cell (kblock_lt b0)).trans b0, (hb.cell (kblock_lt b1)).trans b1, (hb.cell (kblock_lt b2)).trans b2, (hb.cell (kblock_lt b3)).trans b3, (hb.cell (kblock_lt b4)).trans b4, (hb.cell (kblock_lt b5)).trans b5⟩
  have bR : Below W0.heap.size W0 W0 := Below.refl _ _
  have bD : Below W0.heap.size W0 W0.drew := bR.drew
  have hS0 := hSB _ bD
  have hSa : ∀ o, _ := fun o : Obj => hSB _ ((bR.alloc bR.size o).drew)
  have hSs : ∀ o u0 u1 u2 u3 u4 u5, _ := fun (o : Obj) (u0 u1 u2 u3 u4 u5 : Value) => hSB ((((((((W0.alloc o).setCell ⟨W0.heap.size, 0, none⟩ u0).setCell ⟨W0.heap.size, 1, none⟩ u1).setCell ⟨W0.heap.size, 2, none⟩ u2).setCell ⟨W0.heap.size, 3, none⟩ u3).setCell ⟨W0.heap.size, 4, none⟩ u4).setCell ⟨W0.heap.size, 5, none⟩ u5).drew) (((((((((bR.alloc bR.size o).setCell (p := ⟨W0.heap.size, 0, none⟩) (Nat.le_refl _) u0).setCell (p := ⟨W0.heap.size, 1, none⟩) (Nat.le_refl _) u1).setCell (p := ⟨W0.heap.size, 2, none⟩) (Nat.le_refl _) u2).setCell (p := ⟨W0.heap.size, 3, none⟩) (Nat.le_refl _) u3).setCell (p := ⟨W0.heap.size, 4, none⟩) (Nat.le_refl _) u4).setCell (p := ⟨W0.heap.size, 5, none⟩) (Nat.le_refl _) u5).drew))
  clear hSB
  go_region_held3 (fun w' => (w'.cell? ⟨p, 0, none⟩ = some (.slice (some ad) l.length ct) ∧ w'.cell? ⟨p, 1, none⟩ = some (.int .i64 (i : Int)) ∧ w'.cell? cc = some (.int .i64 t.kind) ∧ w'.cell? ⟨cc.block, cc.off + 1, none⟩ = some (.string (ofBytes t.nm)) ∧ w'.cell? ⟨cc.block, cc.off + 2, none⟩ = some (.slice qa t.al.length ca) ∧ w'.cell? ⟨cc.block, cc.off + 3, none⟩ = some (.bool t.em) ∧ w'.cell? ⟨cc.block, cc.off + 4, none⟩ = some (.string (ofBytes t.tx)) ∧ w'.cell? ⟨cc.block, cc.off + 5, none⟩ = some (.int .i64 t.at'))) (first | with_reducible exact hS0 | with_reducible exact hSa _ | with_reducible exact hSs _ _ _ _ _ _ _) (fail)
  clear hS0 hSa hSs bD bR
  rename_i hHeld
  clear hHeld
  have HT1 := Lib.hid (show Keep p w (W0.alloc (.cells #[.int .i64 t.kind, .string (ofBytes t.nm), .slice qa t.al.length ca, .bool t.em, .string (ofBytes t.tx), .int .i64 t.at'] 91)).drew from ((Keep.of HB0.out).alloc _).drew)
  have HP1 := Lib.hid (show Par (W0.alloc (.cells #[.int .i64 t.kind, .string (ofBytes t.nm), .slice qa t.al.length ca, .bool t.em, .string (ofBytes t.tx), .int .i64 t.at'] 91)).drew p (some ad) l.length ct (i : Int) a0 0 from (HP.out.keep HB0.out).keep ((Below.refl _ _).alloc (Nat.le_refl _) _).drew)
  have HR1 := Lib.hid (show Blk (W0.alloc (.cells #[.int .i64 t.kind, .string (ofBytes t.nm), .slice qa t.al.length ca, .bool t.em, .string (ofBytes t.tx), .int .i64 t.at'] 91)).drew w.heap.size nodeZs 29 from HP0.out.more ((Below.refl _ _).alloc (Nat.le_refl _) _).drew)
  have hK1 : Blk (W0.alloc (.cells #[.int .i64 t.kind, .string (ofBytes t.nm), .slice qa t.al.length ca, .bool t.em, .string (ofBytes t.tx), .int .i64 t.at'] 91)).drew (w.heap.size + 1) #[.int .i64 t.kind, .string (ofBytes t.nm), .slice qa t.al.length ca, .bool t.em, .string (ofBytes t.tx), .int .i64 t.at'] 91 := by
    have := Blk.new W0 #[.int .i64 t.kind, .string (ofBytes t.nm), .slice qa t.al.length ca, .bool t.em, .string (ofBytes t.tx), .int .i64 t.at'] 91
    rw [hz0] at this
    exact this
  have hz1 : (W0.alloc (.cells #[.int .i64 t.kind, .string (ofBytes t.nm), .slice qa t.al.length ca, .bool t.em, .string (ofBytes t.tx), .int .i64 t.at'] 91)).drew.heap.size = w.heap.size + 2 := by simp [hz0]
  generalize (W0.alloc (.cells #[.int .i64 t.kind, .string (ofBytes t.nm), .slice qa t.al.length ca, .bool t.em, .string (ofBytes t.tx), .int .i64 t.at'] 91)).drew = W1 at HT1 HP1 HR1 hK1 hz1 ⊢
  clear c0 c1 b0 b1 b2 b3 b4 b5 hz0 HP0 HB0 hcc hzc
  have hRp : w.heap.size ≠ p := by omega
  by_cases hd1 : 100 < d
  · have hd2 : (100 : Int) < (d : Int) := by omega
    have HE2 := Lib.hid (HE.out.trans (if_pos hd1))
    have e5 : W1.cell? ⟨w.heap.size + 1, 5, none⟩ = some (.int .i64 t.at') := hK1.cell 5
    clear hd1 HE
    go_wp2_with fail
    refine (tref_fail p (some ad) l.length ct (i : Int) a0 0 t.at' 9 W1 (HP1.out)).mono ?_
    rintro e w9 ⟨he9, hP9, k9⟩
    replace he9 : e = .returned (.agg #[.int .i64 0, .string ⟨#[]⟩, .string ⟨#[]⟩, .slice none 0 0, .slice none 0 0, .string ⟨#[]⟩, .int .i64 0]) := he9
    subst he9
    have R9 := (HR1.out).keep k9 (by omega)
    have K9 := (HT1.out).trans k9
    obtain ⟨⟨r0, r1, r2, r3, r4, r5, r6⟩, g0, g1, g2, g3, g4, g5, g6⟩ := R9.seven
    have HK9 := Lib.hid K9
    have HP9 := Lib.hid hP9
    clear R9 K9 k9 hP9
    generalize hq : w.heap.size = hs at r0 r1 r2 r3 r4 r5 r6 g0 g1 g2 g3 g4 g5 g6 hRp ⊢
    have HQ := Lib.hid hq
    clear hq
    go_wp2
    exact bodyPost_ret (v := zeroV) (by simp [results, Tryd.results48, go_sem, cell_set_same, r0, r1, r2, r3, r4, r5, r6, zeroV]) rfl (by rw [HE2.out]; exact ⟨zeroV, rfl, ⟨_, _, par_sev HP9.out hRp _ _ _ _ _ _ _, fun e => absurd (show (9 : Int) = 0 from e) (by decide), fun _ => rfl⟩, keep_sev HK9.out (by have := HQ.out; omega) _ _ _ _ _ _ _, fun L _ => zero_is _⟩)
  · have hd2 : ¬ (100 : Int) < (d : Int) := by omega
    have HE2 := Lib.hid (HE.out.trans (if_neg hd1))
    have t1 : W1.cell? ⟨w.heap.size + 1, 1, none⟩ = some (.string (ofBytes t.nm)) := hK1.cell 1
    have t2 : W1.cell? ⟨w.heap.size + 1, 2, none⟩ = some (.slice qa t.al.length ca) := hK1.cell 2
    have t5 : W1.cell? ⟨w.heap.size + 1, 5, none⟩ = some (.int .i64 t.at') := hK1.cell 5
    have p1 := HP1.out.cells.2.1
    have q1 := HP1.out.frz 1
    have hw1 : IntKind.i64.wrap ((i : Int) + 1) = (i : Int) + 1 := wrap_small _ (by omega) (by omega)
    obtain ⟨W3, hW3⟩ : ∃ W3, W3 = (W1.setCell ⟨p, 1, none⟩ (.int .i64 ((i : Int) + 1))).alloc (.cells #[.int .i64 0, .string ⟨#[]⟩, .string (ofBytes t.nm), .slice qa t.al.length ca, .slice none 0 0, .string ⟨#[]⟩, .int .i64 t.at'] 29) := ⟨_, rfl⟩
    have hE3 : ElR w p (some ad) l.length ct l w.heap.size t qa ca a0 (i + 1) [] (.slice none 0 0) [] W3 := by
      have hsz : (W1.setCell ⟨p, 1, none⟩ (.int .i64 ((i : Int) + 1))).heap.size = w.heap.size + 2 := by simp [hz1]
      have hal : Below (W1.setCell ⟨p, 1, none⟩ (.int .i64 ((i : Int) + 1))).heap.size (W1.setCell ⟨p, 1, none⟩ (.int .i64 ((i : Int) + 1))) W3 := by rw [hW3]; exact (Below.refl _ _).alloc (Nat.le_refl _) _
      refine ⟨rfl, hpz, ?_, ?_, ?_, ?_, World.ownsRow_nil _ _ _ _, fun L _ => rfl, ?_⟩
      · rw [show ((i + 1 : Nat) : Int) = (i : Int) + 1 by omega]
        exact (HP1.out.set1 _).keep hal
      · exact (HR1.out.own (q := ⟨p, 1, none⟩) (by show p ≠ _; omega) _).more hal
      · exact (hK1.own (q := ⟨p, 1, none⟩) (by show p ≠ _; omega) _).more hal
      · rw [hW3]
        have := Blk.new (W1.setCell ⟨p, 1, none⟩ (.int .i64 ((i : Int) + 1))) #[.int .i64 0, .string ⟨#[]⟩, .string (ofBytes t.nm), .slice qa t.al.length ca, .slice none 0 0, .string ⟨#[]⟩, .int .i64 t.at'] 29
        rwa [hsz] at this
      · exact (HT1.out.set 1 _).more hal
    clear hd1 HE HP1 HR1 hK1 HT1
    go_upto_region 6 with fail
    simp only [← hW3]
    clear hW3 t1 t2 t5 p1 q1 hw1 hz1
    have t3 : W3.cell? ⟨w.heap.size + 1, 3, none⟩ = some (.bool t.em) := hE3.tok.cell 3
    cases hem : t.em with
    | true =>
      rw [hem] at t3
      have HE3 := Lib.hid (HE2.out.trans (if_pos hem))
      clear HE2
      obtain ⟨⟨r0, r1, r2, r3, r4, r5, r6⟩, g0, g1, g2, g3, g4, g5, g6⟩ := (hE3).res.seven
      have n0 : (W3).cell? ⟨w.heap.size + 2, 0, none⟩ = some (.int .i64 0) := (hE3).nod.cell 0
      have n1 : (W3).cell? ⟨w.heap.size + 2, 1, none⟩ = some (.string ⟨#[]⟩) := (hE3).nod.cell 1
      have n2 : (W3).cell? ⟨w.heap.size + 2, 2, none⟩ = some (.string (ofBytes t.nm)) := (hE3).nod.cell 2
      have n3 : (W3).cell? ⟨w.heap.size + 2, 3, none⟩ = some (.slice qa t.al.length ca) := (hE3).nod.cell 3
      have n4 : (W3).cell? ⟨w.heap.size + 2, 4, none⟩ = some (.slice none 0 0) := (hE3).nod.cell 4
      have n5 : (W3).cell? ⟨w.heap.size + 2, 5, none⟩ = some (.string ⟨#[]⟩) := (hE3).nod.cell 5
      have n6 : (W3).cell? ⟨w.heap.size + 2, 6, none⟩ = some (.int .i64 t.at') := (hE3).nod.cell 6
      have HEL := Lib.hid (hE3)
      go_wp2
      exact bodyPost_ret (v := .agg #[.int .i64 0, .string ⟨#[]⟩, .string (ofBytes t.nm), .slice qa t.al.length ca, (.slice none 0 0), .string ⟨#[]⟩, .int .i64 t.at']) (by simp [results, Tryd.results48, go_sem, cell_set_same, r0, r1, r2, r3, r4, r5, r6]) rfl (by rw [HE3.out]; exact ⟨_, rfl, ⟨_, _, par_sev HEL.out.par hRp _ _ _ _ _ _ _, fun _ => ⟨rfl, rfl⟩, fun e => absurd rfl e⟩, keep_sev HEL.out.keep (Nat.le_refl _) _ _ _ _ _ _ _, fun L hL => node_res (HEL.out.node hL (HAL.out L hL)) (sevK2 _ _ _ _ _ _ _ _ _)⟩)
    | false =>
      rw [hem] at t3
      have HE3 := Lib.hid (HE2.out.trans (if_neg (by rw [hem]; decide)))
      have HL3 := Lib.hid hE3
      clear HE2 hE3
      go_wp2
      go_loopw [] (fun wr => ∃ (j G : Nat) (kids : List NodeD) (vk : Value) (xs : List Value), j ≤ l.length ∧ 2 * (l.length - j) + 1 ≤ G ∧ G ≤ F ∧ R = kidsP l z G d t j kids ∧ kids.length ≤ j ∧ (∀ k ∈ kids, k.tx.size ≤ j * 100050004) ∧ (kids = [] → vk = .slice none 0 0) ∧ ElR w p (some ad) l.length ct l w.heap.size t qa ca a0 j kids vk xs wr) (fun wr => l.length - (intOf ((wr.cell? ⟨p, 1, none⟩).getD (.bool false))).toNat)
      case atStart => exact ⟨i + 1, F, [], _, [], by omega, by omega, Nat.le_refl _, HE3.out, Nat.zero_le _, (fun k hk => by cases hk), (fun _ => rfl), HL3.out⟩
      case round =>
        clear HE3 HL3 t3 hem
        obtain ⟨j, G, kids, vk, xs, hj, hG, hGF, hrel, hkj, hkt, hkn, hL⟩ := hrel
        obtain ⟨Ak, Ck, rfl⟩ := own_form hL.row
        have HKT := Lib.hid hkt
        have HKN := Lib.hid hkn
        obtain ⟨G, rfl⟩ : ∃ G', G = G' + 1 := ⟨G - 1, by omega⟩
        have c0 := hL.par.cells.1
        have c1 := hL.par.cells.2.1
        have HL := Lib.hid hL
        have HREL := Lib.hid hrel
        have hj6 : (j : Int) ≤ 1000000 := by omega
        clear hL hrel hkt hkn
        have M1 := Lib.hid c1
        by_cases hlt : j < l.length
        · have hjz : (j : Int) < (l.length : Int) := by omega
          go_wp2
          go_quiet (fail)
          have hL1 := HL.out.below (below_drewN (Below.refl wr.heap.size wr) nq)
          generalize wr.drewN nq = wq at hL1 ⊢
          obtain ⟨ad', qu, cu, had, ⟨b0, b1, b2, b3, b4, b5⟩, -⟩ := HT.out j hlt
          injection had with had
          subst had
          have hkey : ∀ x v, (holes w [p]).cell? x = some v → wq.cell? x = some v := fun x v h => (hL1.keep.cell (holes_cell h).2.2 (by have := (holes_cell h).2.1; simpa using this)).trans (holes_cell h).1
          replace b0 := hkey _ _ b0
          replace b1 := hkey _ _ b1
          replace b2 := hkey _ _ b2
          replace b3 := hkey _ _ b3
          replace b4 := hkey _ _ b4
          replace b5 := hkey _ _ b5
          have hrel := HREL.out
          rw [kidsP, List.getElem?_eq_getElem hlt] at hrel
          have hut := HTX.out l[j] (List.getElem_mem _)
          obtain ⟨u, hu⟩ : ∃ u, l[j] = u := ⟨_, rfl⟩
          rw [hu] at b0 b1 b2 b3 b4 b5 hrel hut
          simp only at hrel
          have HRL := Lib.hid hrel
          obtain ⟨dd, hdd⟩ : ∃ dd, ad.add (j * 6) = dd := ⟨_, rfl⟩
          rw [hdd] at b0 b1 b2 b3 b4 b5
          simp only [Addr.add, Nat.reduceEqDiff, ↓reduceIte] at b1 b2 b3 b4 b5
          clear hkey HREL hrel c0 c1
          have c0 := hL1.par.cells.1
          have c1 := hL1.par.cells.2.1
          have hj0 : (0 : Int) ≤ (j : Int) := by omega
          have hSB : ∀ w', Below wq.heap.size wq w' → (w'.cell? ⟨p, 0, none⟩ = some (.slice (some ad) l.length ct) ∧ w'.cell? ⟨p, 1, none⟩ = some (.int .i64 (j : Int)) ∧ w'.cell? dd = some (.int .i64 u.kind) ∧ w'.cell? ⟨dd.block, dd.off + 1, none⟩ = some (.string (ofBytes u.nm)) ∧ w'.cell? ⟨dd.block, dd.off + 2, none⟩ = some (.slice qu u.al.length cu) ∧ w'.cell? ⟨dd.block, dd.off + 3, none⟩ = some (.bool u.em) ∧ w'.cell? ⟨dd.block, dd.off + 4, none⟩ = some (.string (ofBytes u.tx)) ∧ w'.cell? ⟨dd.block, dd.off + 5, none⟩ = some (.int .i64 u.at')) := fun w' hb => ⟨(hb.cell (kblock_lt c0)).trans c0, (hb.cell (kblock_lt c1)).trans c1, (hb.cell (kblock_lt b0)).trans b0, (hb.cell (kblock_lt b1)).trans b1, (hb.cell (kblock_lt b2)).trans b2, (hb.cell (kblock_lt b3)).trans b3, (hb.cell (kblock_lt b4)).trans b4, (hb.cell (kblock_lt b5)).trans b5⟩
          have bR : Below wq.heap.size wq wq := Below.refl _ _
          have hS0 := hSB _ bR.drew
          have hSa : ∀ o, _ := fun o : Obj => hSB _ ((bR.alloc bR.size o).drew)
          clear hSB
          go_wp2
          go_region_held3 (fun w' => (w'.cell? ⟨p, 0, none⟩ = some (.slice (some ad) l.length ct) ∧ w'.cell? ⟨p, 1, none⟩ = some (.int .i64 (j : Int)) ∧ w'.cell? dd = some (.int .i64 u.kind) ∧ w'.cell? ⟨dd.block, dd.off + 1, none⟩ = some (.string (ofBytes u.nm)) ∧ w'.cell? ⟨dd.block, dd.off + 2, none⟩ = some (.slice qu u.al.length cu) ∧ w'.cell? ⟨dd.block, dd.off + 3, none⟩ = some (.bool u.em) ∧ w'.cell? ⟨dd.block, dd.off + 4, none⟩ = some (.string (ofBytes u.tx)) ∧ w'.cell? ⟨dd.block, dd.off + 5, none⟩ = some (.int .i64 u.at'))) (first | with_reducible exact hS0 | with_reducible exact hSa _) (fail)
          clear hS0 hSa bR
          rename_i hHeld
          clear hHeld
          have bU : Below wq.heap.size wq (wq.alloc (.cells #[.int .i64 u.kind, .string (ofBytes u.nm), .slice qu u.al.length cu, .bool u.em, .string (ofBytes u.tx), .int .i64 u.at'] 91)).drew := ((Below.refl _ _).alloc (Nat.le_refl _) _).drew
          have hL4 := hL1.below bU
          have hU : Blk (wq.alloc (.cells #[.int .i64 u.kind, .string (ofBytes u.nm), .slice qu u.al.length cu, .bool u.em, .string (ofBytes u.tx), .int .i64 u.at'] 91)).drew wq.heap.size #[.int .i64 u.kind, .string (ofBytes u.nm), .slice qu u.al.length cu, .bool u.em, .string (ofBytes u.tx), .int .i64 u.at'] 91 := Blk.new wq _ _
          have hUz := hL1.lt
          generalize (wq.alloc (.cells #[.int .i64 u.kind, .string (ofBytes u.nm), .slice qu u.al.length cu, .bool u.em, .string (ofBytes u.tx), .int .i64 u.at'] 91)).drew = W4 at hL4 hU ⊢
          clear bU hL1 c0 c1 b0 b1 b2 b3 b4 b5 hdd
          generalize wq.heap.size = U at hU hUz ⊢
          have u0 : W4.cell? ⟨U, 0, none⟩ = some (.int .i64 u.kind) := hU.cell 0
          have u1 : W4.cell? ⟨U, 1, none⟩ = some (.string (ofBytes u.nm)) := hU.cell 1
          have u4 : W4.cell? ⟨U, 4, none⟩ = some (.string (ofBytes u.tx)) := hU.cell 4
          have u5 : W4.cell? ⟨U, 5, none⟩ = some (.int .i64 u.at') := hU.cell 5
          have t1 : W4.cell? ⟨w.heap.size + 1, 1, none⟩ = some (.string (ofBytes t.nm)) := hL4.tok.cell 1
          have p1 := hL4.par.cells.2.1
          have q1 := hL4.par.frz 1
          have hw1 : IntKind.i64.wrap ((j : Int) + 1) = (j : Int) + 1 := wrap_small _ (by omega) (by omega)
          have HL4 := Lib.hid hL4
          have HU := Lib.hid hU
          clear hL4 hU
          by_cases k2 : u.kind = 2
          · rw [k2] at u0
            clear u4
            by_cases hnm : u.nm = t.nm
            · have HRM := Lib.hid ((HRL.out.trans (if_pos k2)).trans (if_neg (fun e => e hnm)))
              rw [hnm] at u1
              obtain ⟨W5, hW5⟩ : ∃ W5, W5 = W4.setCell ⟨p, 1, none⟩ (.int .i64 ((j : Int) + 1)) := ⟨_, rfl⟩
              have hL5 : ElR w p (some ad) l.length ct l w.heap.size t qa ca a0 (j + 1) kids (.slice Ak kids.length Ck) xs W5 := HL4.out.keeps (by rw [hW5]; exact (Keep.refl p W4).set 1 _) (by rw [hW5, show ((j + 1 : Nat) : Int) = (j : Int) + 1 by omega]; exact HL4.out.par.set1 _)
              clear HRL HL4 HU k2 hnm
              go_upto_region 14 with fail
              simp only [← hW5]
              clear hW5 u0 u1 u5 t1 p1 q1
              obtain ⟨⟨r0, r1, r2, r3, r4, r5, r6⟩, g0, g1, g2, g3, g4, g5, g6⟩ := (hL5).res.seven
              have n0 : (W5).cell? ⟨w.heap.size + 2, 0, none⟩ = some (.int .i64 0) := (hL5).nod.cell 0
              have n1 : (W5).cell? ⟨w.heap.size + 2, 1, none⟩ = some (.string ⟨#[]⟩) := (hL5).nod.cell 1
              have n2 : (W5).cell? ⟨w.heap.size + 2, 2, none⟩ = some (.string (ofBytes t.nm)) := (hL5).nod.cell 2
              have n3 : (W5).cell? ⟨w.heap.size + 2, 3, none⟩ = some (.slice qa t.al.length ca) := (hL5).nod.cell 3
              have n4 : (W5).cell? ⟨w.heap.size + 2, 4, none⟩ = some (.slice Ak kids.length Ck) := (hL5).nod.cell 4
              have n5 : (W5).cell? ⟨w.heap.size + 2, 5, none⟩ = some (.string ⟨#[]⟩) := (hL5).nod.cell 5
              have n6 : (W5).cell? ⟨w.heap.size + 2, 6, none⟩ = some (.int .i64 t.at') := (hL5).nod.cell 6
              have HEL := Lib.hid (hL5)
              go_wp2
              exact bodyPost_ret (v := .agg #[.int .i64 0, .string ⟨#[]⟩, .string (ofBytes t.nm), .slice qa t.al.length ca, (.slice Ak kids.length Ck), .string ⟨#[]⟩, .int .i64 t.at']) (by simp [results, Tryd.results48, go_sem, cell_set_same, r0, r1, r2, r3, r4, r5, r6]) rfl (by rw [HRM.out]; exact ⟨_, rfl, ⟨_, _, par_sev HEL.out.par hRp _ _ _ _ _ _ _, fun _ => ⟨rfl, rfl⟩, fun e => absurd rfl e⟩, keep_sev HEL.out.keep (Nat.le_refl _) _ _ _ _ _ _ _, fun L hL => node_res (HEL.out.node hL (HAL.out L hL)) (sevK2 _ _ _ _ _ _ _ _ _)⟩)
            · have HRM := Lib.hid ((HRL.out.trans (if_pos k2)).trans (if_pos hnm))
              have s1 := str_ne (ofBytes_ne hnm)
              have s2 := str_ne2 (ofBytes_ne hnm)
              have s3 := str_ne3 (ofBytes_ne hnm)
              clear HRL k2 hnm p1 q1
              go_wp2_with fail
              refine (tref_fail p (some ad) l.length ct (j : Int) a0 0 u.at' 14 W4 (HL4.out.par)).mono ?_
              rintro e w9 ⟨he9, hP9, k9⟩
              replace he9 : e = .returned (.agg #[.int .i64 0, .string ⟨#[]⟩, .string ⟨#[]⟩, .slice none 0 0, .slice none 0 0, .string ⟨#[]⟩, .int .i64 0]) := he9
              subst he9
              have R9 := (HL4.out.res).keep k9 (by omega)
              have K9 := (HL4.out.keep).trans k9
              obtain ⟨⟨r0, r1, r2, r3, r4, r5, r6⟩, g0, g1, g2, g3, g4, g5, g6⟩ := R9.seven
              have HK9 := Lib.hid K9
              have HP9 := Lib.hid hP9
              clear R9 K9 k9 hP9
              generalize hq : w.heap.size = hs at r0 r1 r2 r3 r4 r5 r6 g0 g1 g2 g3 g4 g5 g6 hRp ⊢
              have HQ := Lib.hid hq
              clear hq
              go_wp2
              exact bodyPost_ret (v := zeroV) (by simp [results, Tryd.results48, go_sem, cell_set_same, r0, r1, r2, r3, r4, r5, r6, zeroV]) rfl (by rw [HRM.out]; exact ⟨zeroV, rfl, ⟨_, _, par_sev HP9.out hRp _ _ _ _ _ _ _, fun e => absurd (show (14 : Int) = 0 from e) (by decide), fun _ => rfl⟩, keep_sev HK9.out (by have := HQ.out; omega) _ _ _ _ _ _ _, fun L _ => zero_is _⟩)
          · have k2b : (u.kind == 2) = false := by simpa using k2
            by_cases k1 : u.kind = 1
            · have HRM := Lib.hid ((HRL.out.trans (if_neg k2)).trans (if_pos k1))
              rw [k1] at u0
              have hT4 : TokensAt (holes W4 [p]) (some ad) l := HT.out.go (Goes.keep HL4.out.keep (by simp))
              have HLO := Lib.hid (show LeftOut W4 p (some ad) l [p] from ⟨fun b hb => by rw [List.mem_singleton.1 hb]; exact HL4.out.par.lt, by simp, hT4⟩)
              have cE := IH G (by omega) (d + 1) j p (some ad) ct a0 W4 hlt (by omega) (by omega) HL4.out.par hT4
              rw [show ((d + 1 : Nat) : Int) = (d : Int) + 1 by omega] at cE
              have hwd : IntKind.i64.wrap ((d : Int) + 1) = (d : Int) + 1 := wrap_small _ (by omega) (by omega)
              have HB2 := Lib.hid ((el_bound l z G).1 (d + 1) j hlt (by omega))
              clear HRL HU k2 k2b k1 hT4 u1 u4 u5 t1 p1 q1 hw1 hUz HTX hut
              generalize elP l z G (d + 1) j = r1 at *
              obtain ⟨n1, j2, a2, e2⟩ := r1
              simp only at HRM HB2
              go_wp2_with fail
              refine cE.mono ?_
              rintro e w2 ⟨v, rfl, ⟨j1, a1, hP2, h0, h1⟩, kk2, hn2⟩
              simp only at hP2 h0 h1 hn2
              obtain ⟨xa, xc, xk, xd, rfl, -, -⟩ := (node_is _ n1 _).1 (hn2 _ HLO.out)
              have hk1 : ∀ y ∈ ([.int .i64 n1.kind, .string n1.sp, .string n1.nm, .slice xa n1.al.length xc, .slice xk n1.kids.length xd, .string n1.tx, .int .i64 n1.at'] : List Value), y.oneCell' = true := by
                intro y hy
                simp only [List.mem_cons, List.not_mem_nil, or_false] at hy
                rcases hy with rfl | rfl | rfl | rfl | rfl | rfl | rfl <;> rfl
              have HN2 := Lib.hid hn2
              clear hn2 cE
              obtain ⟨wq, hwq⟩ : ∃ wq, wq = w2.alloc (.cells #[.int .i64 n1.kind, .string n1.sp, .string n1.nm, .slice xa n1.al.length xc, .slice xk n1.kids.length xd, .string n1.tx, .int .i64 n1.at'] 29) := ⟨_, rfl⟩
              have bq : Below w2.heap.size w2 wq := by rw [hwq]; exact (Below.refl _ _).alloc (Nat.le_refl _) _
              have hKb : Blk wq w2.heap.size #[.int .i64 n1.kind, .string n1.sp, .string n1.nm, .slice xa n1.al.length xc, .slice xk n1.kids.length xd, .string n1.tx, .int .i64 n1.at'] 29 := by rw [hwq]; exact Blk.new w2 _ _
              have hP3 : Par wq p (some ad) l.length ct j1 a1 e2 := hP2.keep bq
              have hzk := HL4.out.lt
              have hkz := kk2.size
              have x0 : wq.cell? ⟨w2.heap.size, 0, none⟩ = some (.int .i64 n1.kind) := hKb.cell 0
              have x1 : wq.cell? ⟨w2.heap.size, 1, none⟩ = some (.string n1.sp) := hKb.cell 1
              have x2 : wq.cell? ⟨w2.heap.size, 2, none⟩ = some (.string n1.nm) := hKb.cell 2
              have x3 : wq.cell? ⟨w2.heap.size, 3, none⟩ = some (.slice xa n1.al.length xc) := hKb.cell 3
              have x4 : wq.cell? ⟨w2.heap.size, 4, none⟩ = some (.slice xk n1.kids.length xd) := hKb.cell 4
              have x5 : wq.cell? ⟨w2.heap.size, 5, none⟩ = some (.string n1.tx) := hKb.cell 5
              have x6 : wq.cell? ⟨w2.heap.size, 6, none⟩ = some (.int .i64 n1.at') := hKb.cell 6
              have y3 := hP3.cells.2.2.2
              have HBQ := Lib.hid bq
              have HP3 := Lib.hid hP3
              go_upto_region 17 with fail
              simp only [← hwq]
              clear hwq
              by_cases he2 : e2 = 0
              · subst he2
                obtain ⟨rfl, rfl⟩ := h0 rfl
                have HRN := Lib.hid (HRM.out.trans (if_neg (fun q => q rfl)))
                obtain ⟨hj2, hj2l, hn1t⟩ := HB2.out rfl
                have hLq := HL4.out.keeps (j := j2) (kk2.more bq) hP3
                have HKQ := Lib.hid (fun L hL => ((HN2.out _ (HL4.out.outs hL)).go (Goes.below bq) : NodeIs (holes wq (L ++ [w.heap.size, w.heap.size + 1, w.heap.size + 2] ++ (Value.slice Ak kids.length Ck).ownBlock.toList)) n1 _))
                have hNod := hLq.nod
                have hNK : NK (w.heap.size + 2) w2.heap.size (.slice Ak kids.length Ck) (.int .i64 n1.kind) (.string n1.sp) (.string n1.nm) (.slice xa n1.al.length xc) (.slice xk n1.kids.length xd) (.string n1.tx) (.int .i64 n1.at') wq := ⟨hNod.cell 4, x0, x1, x2, x3, x4, x5, x6⟩
                have hNz := hNod.lt
                have hKz := hKb.lt
                have HLQ := Lib.hid hLq
                have HKU := Lib.hid (show ∀ k ∈ kids ++ [n1], k.tx.size ≤ j2 * 100050004 from fun k hk => by
                  rcases List.mem_append.1 hk with hk | hk
                  · have := HKT.out k hk
                    exact Nat.le_trans this (Nat.mul_le_mul_right _ (Nat.le_of_lt hj2))
                  · rw [List.mem_singleton.1 hk, hn1t]
                    exact Nat.zero_le _)
                clear HRM HB2 h0 h1 hP2 hP3 kk2 bq hLq hKb HL4 HN2 HLO
                go_wp2
                clear x0 x1 x2 x3 x4 x5 x6 y3
                have hSB : ∀ w', Below wq.heap.size wq w' → NK (w.heap.size + 2) w2.heap.size (.slice Ak kids.length Ck) (.int .i64 n1.kind) (.string n1.sp) (.string n1.nm) (.slice xa n1.al.length xc) (.slice xk n1.kids.length xd) (.string n1.tx) (.int .i64 n1.at') w' := fun w' hb => hNK.below hb hNz hKz
                by_cases hk0 : kids = []
                · subst hk0
                  obtain ⟨hx1, hx2⟩ := HLQ.out.row
                  have hxs : xs = [] := List.length_eq_zero_iff.1 (by rw [hx1]; rfl)
                  subst hxs
                  have hA := HKN.out rfl
                  injection hA with hA1 hA2 hA3
                  subst hA1
                  subst hA3
                  clear hx1 hx2
                  have bR : Below wq.heap.size wq wq := Below.refl _ _
                  have bA : ∀ o, Below wq.heap.size wq (wq.alloc o).drew := fun o => (bR.alloc bR.size o).drew
                  have bAA : ∀ o o', Below wq.heap.size wq ((wq.alloc o).alloc o').drew := fun o o' => ((bR.alloc bR.size o).alloc (bR.alloc bR.size o).size o').drew
                  have hS0 := hSB _ bR.drew
                  have hE1 := (made_own wq wq.heap.size (Nat.le_refl _)).drew
                  have hE1K := ((made_own wq wq.heap.size (Nat.le_refl _)).alloc (.cells #[.int .i64 n1.kind, .string n1.sp, .string n1.nm, .slice xa n1.al.length xc, .slice xk n1.kids.length xd, .string n1.tx, .int .i64 n1.at'] 29)).drew
                  have hE2 : ((wq.alloc (.cells #[.int .i64 n1.kind, .string n1.sp, .string n1.nm, .slice xa n1.al.length xc, .slice xk n1.kids.length xd, .string n1.tx, .int .i64 n1.at'] 29)).alloc (.cells #[] 29)).drew.ownsRow wq.heap.size 29 7 (.slice (some ⟨wq.heap.size + 1, 0, none⟩) 0 0) 0 [] := by
                    have := (made_own (wq.alloc (.cells #[.int .i64 n1.kind, .string n1.sp, .string n1.nm, .slice xa n1.al.length xc, .slice xk n1.kids.length xd, .string n1.tx, .int .i64 n1.at'] 29)) wq.heap.size (bR.alloc bR.size _).size).drew
                    rwa [show (wq.alloc (.cells #[.int .i64 n1.kind, .string n1.sp, .string n1.nm, .slice xa n1.al.length xc, .slice xk n1.kids.length xd, .string n1.tx, .int .i64 n1.at'] 29)).heap.size = wq.heap.size + 1 by simp] at this
                  have blkB : ((wq.alloc (.cells #[] 29)).alloc (.cells #[.int .i64 n1.kind, .string n1.sp, .string n1.nm, .slice xa n1.al.length xc, .slice xk n1.kids.length xd, .string n1.tx, .int .i64 n1.at'] 29)).drew.heap[wq.heap.size + 1]? = some (.cells #[.int .i64 n1.kind, .string n1.sp, .string n1.nm, .slice xa n1.al.length xc, .slice xk n1.kids.length xd, .string n1.tx, .int .i64 n1.at'] 29 (0, 0)) := by
                    have := heap_alloc_new (wq.alloc (.cells #[] 29)) (.cells #[.int .i64 n1.kind, .string n1.sp, .string n1.nm, .slice xa n1.al.length xc, .slice xk n1.kids.length xd, .string n1.tx, .int .i64 n1.at'] 29)
                    rwa [show (wq.alloc (.cells #[] 29)).heap.size = wq.heap.size + 1 by simp] at this
                  have blkC : ((wq.alloc (.cells #[.int .i64 n1.kind, .string n1.sp, .string n1.nm, .slice xa n1.al.length xc, .slice xk n1.kids.length xd, .string n1.tx, .int .i64 n1.at'] 29)).alloc (.cells #[] 29)).drew.heap[wq.heap.size]? = some (.cells #[.int .i64 n1.kind, .string n1.sp, .string n1.nm, .slice xa n1.al.length xc, .slice xk n1.kids.length xd, .string n1.tx, .int .i64 n1.at'] 29 (0, 0)) := (heap_alloc_old (wq.alloc (.cells #[.int .i64 n1.kind, .string n1.sp, .string n1.nm, .slice xa n1.al.length xc, .slice xk n1.kids.length xd, .string n1.tx, .int .i64 n1.at'] 29)) (.cells #[] 29) (by simp)).trans (heap_alloc_new wq (.cells #[.int .i64 n1.kind, .string n1.sp, .string n1.nm, .slice xa n1.al.length xc, .slice xk n1.kids.length xd, .string n1.tx, .int .i64 n1.at'] 29))
                  refine wp_region_late (S := fun w' => NK (w.heap.size + 2) w2.heap.size (.slice none 0 0) (.int .i64 n1.kind) (.string n1.sp) (.string n1.nm) (.slice xa n1.al.length xc) (.slice xk n1.kids.length xd) (.string n1.tx) (.int .i64 n1.at') w') (D := [7, 8]) (by kernel_rfl) ?_
                  refine anyL_take (i := 1) (oi := { dst := some 100, op := Go.Op.fieldAddr 29 (Go.Operand.tmp 8) 4, type := 0, pos := "ref.go:60", after := #[], guard := none }) (v := ?_) rfl (by decide) (by kernel_rfl) (by kernel_rfl) (by kernel_rfl) (by kernel_rfl) (fun _ _ _ h => h) (Or.inl ⟨by rfl, ?_⟩) hS0 ?_
                  rotate_left
                  · intro wz hSz
                    obtain ⟨z0, z1, z2, z3, z4, z5, z6, z7⟩ := hSz
                    go_simp
                    (try with_reducible rfl)
                  try simp only [Act.put, List.setIfInBounds_toArray, List.set_cons_zero, List.set_cons_succ]
                  refine anyL_take (i := 2) (oi := { dst := some 101, op := Go.Op.load 27 (Go.Operand.tmp 100), type := 27, pos := "ref.go:60", after := #[{ on := 1, ground := Go.Ground.data }], guard := none }) (v := ?_) rfl (by decide) (by kernel_rfl) (by kernel_rfl) (by kernel_rfl) (by kernel_rfl) (fun _ _ _ h => h) (Or.inl ⟨by rfl, ?_⟩) hS0 ?_
                  rotate_left
                  · intro wz hSz
                    obtain ⟨z0, z1, z2, z3, z4, z5, z6, z7⟩ := hSz
                    go_simp
                    (try with_reducible rfl)
                  try simp only [Act.put, List.setIfInBounds_toArray, List.set_cons_zero, List.set_cons_succ]
                  refine anyL_take (i := 4) (oi := { dst := some 103, op := Go.Op.load 29 (Go.Operand.tmp 10), type := 29, pos := "ref.go:60", after := #[], guard := none }) (v := ?_) rfl (by decide) (by kernel_rfl) (by kernel_rfl) (by kernel_rfl) (by kernel_rfl) (fun _ _ _ h => h) (Or.inl ⟨by rfl, ?_⟩) hS0 ?_
                  rotate_left
                  · intro wz hSz
                    obtain ⟨z0, z1, z2, z3, z4, z5, z6, z7⟩ := hSz
                    go_simp
                    (try with_reducible rfl)
                  try simp only [Act.put, List.setIfInBounds_toArray, List.set_cons_zero, List.set_cons_succ]
                  refine anyL_ready (rs := [0, 5]) (by kernel_rfl) (by simp) ?_
                  refine AllL.cons (o := { dst := some 99, op := Go.Op.buildSlice 27 0 #[], type := 27, pos := "ref.go:60", after := #[], guard := none }) rfl (fun K hK => ?_) ?_
                  · go_simp
                    refine hK _ _ (hSB _ (bA _)) ?_
                    clear hK K
                    try simp only [Act.put, List.setIfInBounds_toArray, List.set_cons_zero, List.set_cons_succ]
                    refine anyL_ready (rs := [3, 5]) (by kernel_rfl) (by simp) ?_
                    refine AllL.cons (o := { dst := some 102, op := Go.Op.call { callee := Go.Callee.builtin Go.Builtin.append, args := #[Go.Operand.tmp 99, Go.Operand.tmp 101], argTypes := #[27, 27] }, type := 27, pos := "ref.go:60", after := #[{ on := 0, ground := Go.Ground.data }, { on := 2, ground := Go.Ground.data }], guard := none }) rfl (fun K hK => ?_) ?_
                    · go_simp
                      refine hK _ _ (hSB _ (bA _)) ?_
                      clear hK K
                      try simp only [Act.put, List.setIfInBounds_toArray, List.set_cons_zero, List.set_cons_succ]
                      refine anyL_ready (rs := [5]) (by kernel_rfl) (by simp) ?_
                      refine AllL.cons (o := { dst := some 104, op := Go.Op.buildSlice 27 1 #[(0, Go.Operand.tmp 103)], type := 27, pos := "ref.go:60", after := #[{ on := 4, ground := Go.Ground.data }], guard := none }) rfl (fun K hK => ?_) ?_
                      · go_simp
                        refine hK _ _ (hSB _ (bAA _ _)) ?_
                        clear hK K
                        try simp only [Act.put, List.setIfInBounds_toArray, List.set_cons_zero, List.set_cons_succ]
                        refine anyL_ready (rs := [6]) (by kernel_rfl) (by simp) ?_
                        refine AllL.cons (o := { dst := some 105, op := Go.Op.call { callee := Go.Callee.builtin Go.Builtin.append, args := #[Go.Operand.tmp 102, Go.Operand.tmp 104], argTypes := #[27, 27] }, type := 27, pos := "ref.go:60", after := #[{ on := 3, ground := Go.Ground.data }, { on := 5, ground := Go.Ground.data }, { on := 3, ground := Go.Ground.chain }], guard := none }) rfl (fun K hK => ?_) ?_
                        · refine step_one rfl (.tmp 102) (.tmp 104) rfl wq.heap.size (wq.heap.size + 1) 0 [] (.slice (some ⟨wq.heap.size, 0, none⟩) 0 0) (.int .i64 n1.kind) (.string n1.sp) (.string n1.nm) (.slice xa n1.al.length xc) (.slice xk n1.kids.length xd) (.string n1.tx) (.int .i64 n1.at') rfl rfl hE1K blkB hk1 (by decide) ((bAA _ _)).size ?_
                          intro g5 cap5 w5 own5 grow5
                          try go_simp
                          have b5 := gb (bAA _ _) grow5 ((bAA _ _)).size (Nat.le_refl _)
                          refine hK _ _ (hSB _ b5) ?_
                          clear hK K
                          try simp only [Act.put, List.setIfInBounds_toArray, List.set_cons_zero, List.set_cons_succ]
                          refine anyL_takeD (i := 7) (oi := { dst := some 106, op := Go.Op.fieldAddr 29 (Go.Operand.tmp 8) 4, type := 0, pos := "ref.go:60", after := #[{ on := 0, ground := Go.Ground.phase }, { on := 1, ground := Go.Ground.phase }, { on := 2, ground := Go.Ground.phase }, { on := 3, ground := Go.Ground.phase }, { on := 4, ground := Go.Ground.phase }, { on := 5, ground := Go.Ground.phase }, { on := 6, ground := Go.Ground.phase }], guard := none }) (v := ?_) rfl (by decide) (by kernel_rfl) (by kernel_rfl) (by kernel_rfl) (fun _ _ _ h => h) (Or.inl ⟨by rfl, ?_⟩) ?_
                          rotate_left
                          · intro wz _
                            go_simp
                            (try with_reducible rfl)
                          try simp only [Act.put, List.setIfInBounds_toArray, List.set_cons_zero, List.set_cons_succ]
                          refine anyL_ready (rs := [8]) (by kernel_rfl) (by simp) ?_
                          refine AllL.last (o := { dst := none, op := Go.Op.store 27 (Go.Operand.tmp 106) (Go.Operand.tmp 105), type := 0, pos := "ref.go:60", after := #[{ on := 7, ground := Go.Ground.data }, { on := 6, ground := Go.Ground.data }, { on := 6, ground := Go.Ground.chain }, { on := 0, ground := Go.Ground.phase }, { on := 1, ground := Go.Ground.phase }, { on := 2, ground := Go.Ground.phase }, { on := 3, ground := Go.Ground.phase }, { on := 4, ground := Go.Ground.phase }, { on := 5, ground := Go.Ground.phase }, { on := 6, ground := Go.Ground.phase }], guard := none }) rfl (by decide) (fun K hK => ?_)
                          have s5 := (hNod.more b5).cell 4
                          have f5 := (hNod.more b5).fr 4
                          simp only [List.getElem?_toArray, List.getElem?_cons_succ, List.getElem?_cons_zero] at s5
                          go_simp
                          refine hK _ _ ?_
                          clear hK K s5 f5
                          try simp only [Act.put, List.setIfInBounds_toArray, List.set_cons_zero, List.set_cons_succ]
                          refine anyL_done (by kernel_rfl) ?_ _
                          have HPU := Lib.hid (HLQ.out.push b5 (fun L hL => HKQ.out L hL) own5)
                          have HNP := Lib.hid HPU.out.par.cells.2.1
                          go_wp2
                          go_roundw
                          case rel => exact ⟨j2, G, ([] : List NodeD) ++ [n1], _, _, hj2l, by omega, by omega, HRN.out, by rw [List.length_append, List.length_singleton]; omega, HKU.out, fun e => absurd e (by simp), HPU.out⟩
                          case measure => rw [M1.out, HNP.out]; simp [intOf]; omega
                        exact AllL.nil
                      exact AllL.nil
                    refine AllL.cons (o := { dst := some 104, op := Go.Op.buildSlice 27 1 #[(0, Go.Operand.tmp 103)], type := 27, pos := "ref.go:60", after := #[{ on := 4, ground := Go.Ground.data }], guard := none }) rfl (fun K hK => ?_) ?_
                    · go_simp
                      refine hK _ _ (hSB _ (bAA _ _)) ?_
                      clear hK K
                      try simp only [Act.put, List.setIfInBounds_toArray, List.set_cons_zero, List.set_cons_succ]
                      refine anyL_ready (rs := [3]) (by kernel_rfl) (by simp) ?_
                      refine AllL.cons (o := { dst := some 102, op := Go.Op.call { callee := Go.Callee.builtin Go.Builtin.append, args := #[Go.Operand.tmp 99, Go.Operand.tmp 101], argTypes := #[27, 27] }, type := 27, pos := "ref.go:60", after := #[{ on := 0, ground := Go.Ground.data }, { on := 2, ground := Go.Ground.data }], guard := none }) rfl (fun K hK => ?_) ?_
                      · go_simp
                        refine hK _ _ (hSB _ (bAA _ _)) ?_
                        clear hK K
                        try simp only [Act.put, List.setIfInBounds_toArray, List.set_cons_zero, List.set_cons_succ]
                        refine anyL_ready (rs := [6]) (by kernel_rfl) (by simp) ?_
                        refine AllL.cons (o := { dst := some 105, op := Go.Op.call { callee := Go.Callee.builtin Go.Builtin.append, args := #[Go.Operand.tmp 102, Go.Operand.tmp 104], argTypes := #[27, 27] }, type := 27, pos := "ref.go:60", after := #[{ on := 3, ground := Go.Ground.data }, { on := 5, ground := Go.Ground.data }, { on := 3, ground := Go.Ground.chain }], guard := none }) rfl (fun K hK => ?_) ?_
                        · refine step_one rfl (.tmp 102) (.tmp 104) rfl wq.heap.size (wq.heap.size + 1) 0 [] (.slice (some ⟨wq.heap.size, 0, none⟩) 0 0) (.int .i64 n1.kind) (.string n1.sp) (.string n1.nm) (.slice xa n1.al.length xc) (.slice xk n1.kids.length xd) (.string n1.tx) (.int .i64 n1.at') rfl rfl hE1K blkB hk1 (by decide) ((bAA _ _)).size ?_
                          intro g5 cap5 w5 own5 grow5
                          try go_simp
                          have b5 := gb (bAA _ _) grow5 ((bAA _ _)).size (Nat.le_refl _)
                          refine hK _ _ (hSB _ b5) ?_
                          clear hK K
                          try simp only [Act.put, List.setIfInBounds_toArray, List.set_cons_zero, List.set_cons_succ]
                          refine anyL_takeD (i := 7) (oi := { dst := some 106, op := Go.Op.fieldAddr 29 (Go.Operand.tmp 8) 4, type := 0, pos := "ref.go:60", after := #[{ on := 0, ground := Go.Ground.phase }, { on := 1, ground := Go.Ground.phase }, { on := 2, ground := Go.Ground.phase }, { on := 3, ground := Go.Ground.phase }, { on := 4, ground := Go.Ground.phase }, { on := 5, ground := Go.Ground.phase }, { on := 6, ground := Go.Ground.phase }], guard := none }) (v := ?_) rfl (by decide) (by kernel_rfl) (by kernel_rfl) (by kernel_rfl) (fun _ _ _ h => h) (Or.inl ⟨by rfl, ?_⟩) ?_
                          rotate_left
                          · intro wz _
                            go_simp
                            (try with_reducible rfl)
                          try simp only [Act.put, List.setIfInBounds_toArray, List.set_cons_zero, List.set_cons_succ]
                          refine anyL_ready (rs := [8]) (by kernel_rfl) (by simp) ?_
                          refine AllL.last (o := { dst := none, op := Go.Op.store 27 (Go.Operand.tmp 106) (Go.Operand.tmp 105), type := 0, pos := "ref.go:60", after := #[{ on := 7, ground := Go.Ground.data }, { on := 6, ground := Go.Ground.data }, { on := 6, ground := Go.Ground.chain }, { on := 0, ground := Go.Ground.phase }, { on := 1, ground := Go.Ground.phase }, { on := 2, ground := Go.Ground.phase }, { on := 3, ground := Go.Ground.phase }, { on := 4, ground := Go.Ground.phase }, { on := 5, ground := Go.Ground.phase }, { on := 6, ground := Go.Ground.phase }], guard := none }) rfl (by decide) (fun K hK => ?_)
                          have s5 := (hNod.more b5).cell 4
                          have f5 := (hNod.more b5).fr 4
                          simp only [List.getElem?_toArray, List.getElem?_cons_succ, List.getElem?_cons_zero] at s5
                          go_simp
                          refine hK _ _ ?_
                          clear hK K s5 f5
                          try simp only [Act.put, List.setIfInBounds_toArray, List.set_cons_zero, List.set_cons_succ]
                          refine anyL_done (by kernel_rfl) ?_ _
                          have HPU := Lib.hid (HLQ.out.push b5 (fun L hL => HKQ.out L hL) own5)
                          have HNP := Lib.hid HPU.out.par.cells.2.1
                          go_wp2
                          go_roundw
                          case rel => exact ⟨j2, G, ([] : List NodeD) ++ [n1], _, _, hj2l, by omega, by omega, HRN.out, by rw [List.length_append, List.length_singleton]; omega, HKU.out, fun e => absurd e (by simp), HPU.out⟩
                          case measure => rw [M1.out, HNP.out]; simp [intOf]; omega
                        exact AllL.nil
                      exact AllL.nil
                    exact AllL.nil
                  refine AllL.cons (o := { dst := some 104, op := Go.Op.buildSlice 27 1 #[(0, Go.Operand.tmp 103)], type := 27, pos := "ref.go:60", after := #[{ on := 4, ground := Go.Ground.data }], guard := none }) rfl (fun K hK => ?_) ?_
                  · go_simp
                    refine hK _ _ (hSB _ (bA _)) ?_
                    clear hK K
                    try simp only [Act.put, List.setIfInBounds_toArray, List.set_cons_zero, List.set_cons_succ]
                    refine anyL_ready (rs := [0]) (by kernel_rfl) (by simp) ?_
                    refine AllL.cons (o := { dst := some 99, op := Go.Op.buildSlice 27 0 #[], type := 27, pos := "ref.go:60", after := #[], guard := none }) rfl (fun K hK => ?_) ?_
                    · go_simp
                      refine hK _ _ (hSB _ (bAA _ _)) ?_
                      clear hK K
                      try simp only [Act.put, List.setIfInBounds_toArray, List.set_cons_zero, List.set_cons_succ]
                      refine anyL_ready (rs := [3]) (by kernel_rfl) (by simp) ?_
                      refine AllL.cons (o := { dst := some 102, op := Go.Op.call { callee := Go.Callee.builtin Go.Builtin.append, args := #[Go.Operand.tmp 99, Go.Operand.tmp 101], argTypes := #[27, 27] }, type := 27, pos := "ref.go:60", after := #[{ on := 0, ground := Go.Ground.data }, { on := 2, ground := Go.Ground.data }], guard := none }) rfl (fun K hK => ?_) ?_
                      · go_simp
                        refine hK _ _ (hSB _ (bAA _ _)) ?_
                        clear hK K
                        try simp only [Act.put, List.setIfInBounds_toArray, List.set_cons_zero, List.set_cons_succ]
                        refine anyL_ready (rs := [6]) (by kernel_rfl) (by simp) ?_
                        refine AllL.cons (o := { dst := some 105, op := Go.Op.call { callee := Go.Callee.builtin Go.Builtin.append, args := #[Go.Operand.tmp 102, Go.Operand.tmp 104], argTypes := #[27, 27] }, type := 27, pos := "ref.go:60", after := #[{ on := 3, ground := Go.Ground.data }, { on := 5, ground := Go.Ground.data }, { on := 3, ground := Go.Ground.chain }], guard := none }) rfl (fun K hK => ?_) ?_
                        · refine step_one rfl (.tmp 102) (.tmp 104) rfl wq.heap.size wq.heap.size 0 [] (.slice (some ⟨(wq.heap.size + 1), 0, none⟩) 0 0) (.int .i64 n1.kind) (.string n1.sp) (.string n1.nm) (.slice xa n1.al.length xc) (.slice xk n1.kids.length xd) (.string n1.tx) (.int .i64 n1.at') rfl rfl hE2 blkC hk1 (by decide) ((bAA _ _)).size ?_
                          intro g5 cap5 w5 own5 grow5
                          try go_simp
                          have b5 := gb (bAA _ _) grow5 ((bAA _ _)).size (Nat.le_succ _)
                          refine hK _ _ (hSB _ b5) ?_
                          clear hK K
                          try simp only [Act.put, List.setIfInBounds_toArray, List.set_cons_zero, List.set_cons_succ]
                          refine anyL_takeD (i := 7) (oi := { dst := some 106, op := Go.Op.fieldAddr 29 (Go.Operand.tmp 8) 4, type := 0, pos := "ref.go:60", after := #[{ on := 0, ground := Go.Ground.phase }, { on := 1, ground := Go.Ground.phase }, { on := 2, ground := Go.Ground.phase }, { on := 3, ground := Go.Ground.phase }, { on := 4, ground := Go.Ground.phase }, { on := 5, ground := Go.Ground.phase }, { on := 6, ground := Go.Ground.phase }], guard := none }) (v := ?_) rfl (by decide) (by kernel_rfl) (by kernel_rfl) (by kernel_rfl) (fun _ _ _ h => h) (Or.inl ⟨by rfl, ?_⟩) ?_
                          rotate_left
                          · intro wz _
                            go_simp
                            (try with_reducible rfl)
                          try simp only [Act.put, List.setIfInBounds_toArray, List.set_cons_zero, List.set_cons_succ]
                          refine anyL_ready (rs := [8]) (by kernel_rfl) (by simp) ?_
                          refine AllL.last (o := { dst := none, op := Go.Op.store 27 (Go.Operand.tmp 106) (Go.Operand.tmp 105), type := 0, pos := "ref.go:60", after := #[{ on := 7, ground := Go.Ground.data }, { on := 6, ground := Go.Ground.data }, { on := 6, ground := Go.Ground.chain }, { on := 0, ground := Go.Ground.phase }, { on := 1, ground := Go.Ground.phase }, { on := 2, ground := Go.Ground.phase }, { on := 3, ground := Go.Ground.phase }, { on := 4, ground := Go.Ground.phase }, { on := 5, ground := Go.Ground.phase }, { on := 6, ground := Go.Ground.phase }], guard := none }) rfl (by decide) (fun K hK => ?_)
                          have s5 := (hNod.more b5).cell 4
                          have f5 := (hNod.more b5).fr 4
                          simp only [List.getElem?_toArray, List.getElem?_cons_succ, List.getElem?_cons_zero] at s5
                          go_simp
                          refine hK _ _ ?_
                          clear hK K s5 f5
                          try simp only [Act.put, List.setIfInBounds_toArray, List.set_cons_zero, List.set_cons_succ]
                          refine anyL_done (by kernel_rfl) ?_ _
                          have HPU := Lib.hid (HLQ.out.push b5 (fun L hL => HKQ.out L hL) own5)
                          have HNP := Lib.hid HPU.out.par.cells.2.1
                          go_wp2
                          go_roundw
                          case rel => exact ⟨j2, G, ([] : List NodeD) ++ [n1], _, _, hj2l, by omega, by omega, HRN.out, by rw [List.length_append, List.length_singleton]; omega, HKU.out, fun e => absurd e (by simp), HPU.out⟩
                          case measure => rw [M1.out, HNP.out]; simp [intOf]; omega
                        exact AllL.nil
                      exact AllL.nil
                    exact AllL.nil
                  exact AllL.nil
                · obtain ⟨g, cap, hv, hg, hgz⟩ := HLQ.out.row.form (List.length_pos_iff.2 hk0)
                  injection hv with hv1 hv2 hv3
                  subst hv1
                  replace hv3 := hv3.symm
                  subst hv3
                  have own0 := HLQ.out.row
                  obtain ⟨n, hn⟩ : ∃ n, n = kids.length := ⟨_, rfl⟩
                  have hn0 : 0 < n := by rw [hn]; exact List.length_pos_iff.2 hk0
                  have hn9 : n ≤ 1000000000 := by omega
                  have hxl : xs.length = n * 7 := by rw [hn]; exact own0.1
                  have hx1 : ∀ y ∈ xs, y.oneCell' = true := KRow.one _ _ (HLQ.out.kids _ HLO0.out)
                  rw [← hn] at own0 hSB hNod
                  have HNN := Lib.hid hn
                  clear hn
                  have bR : Below wq.heap.size wq wq := Below.refl _ _
                  have bA : ∀ o, Below wq.heap.size wq (wq.alloc o).drew := fun o => (bR.alloc bR.size o).drew
                  have bAA : ∀ o o', Below wq.heap.size wq ((wq.alloc o).alloc o').drew := fun o o' => ((bR.alloc bR.size o).alloc (bR.alloc bR.size o).size o').drew
                  have hS0 := hSB _ bR.drew
                  have hE1 := (made_own wq wq.heap.size (Nat.le_refl _)).drew
                  have hE1K := ((made_own wq wq.heap.size (Nat.le_refl _)).alloc (.cells #[.int .i64 n1.kind, .string n1.sp, .string n1.nm, .slice xa n1.al.length xc, .slice xk n1.kids.length xd, .string n1.tx, .int .i64 n1.at'] 29)).drew
                  have hE2 : ((wq.alloc (.cells #[.int .i64 n1.kind, .string n1.sp, .string n1.nm, .slice xa n1.al.length xc, .slice xk n1.kids.length xd, .string n1.tx, .int .i64 n1.at'] 29)).alloc (.cells #[] 29)).drew.ownsRow wq.heap.size 29 7 (.slice (some ⟨wq.heap.size + 1, 0, none⟩) 0 0) 0 [] := by
                    have := (made_own (wq.alloc (.cells #[.int .i64 n1.kind, .string n1.sp, .string n1.nm, .slice xa n1.al.length xc, .slice xk n1.kids.length xd, .string n1.tx, .int .i64 n1.at'] 29)) wq.heap.size (bR.alloc bR.size _).size).drew
                    rwa [show (wq.alloc (.cells #[.int .i64 n1.kind, .string n1.sp, .string n1.nm, .slice xa n1.al.length xc, .slice xk n1.kids.length xd, .string n1.tx, .int .i64 n1.at'] 29)).heap.size = wq.heap.size + 1 by simp] at this
                  have blkB : ((wq.alloc (.cells #[] 29)).alloc (.cells #[.int .i64 n1.kind, .string n1.sp, .string n1.nm, .slice xa n1.al.length xc, .slice xk n1.kids.length xd, .string n1.tx, .int .i64 n1.at'] 29)).drew.heap[wq.heap.size + 1]? = some (.cells #[.int .i64 n1.kind, .string n1.sp, .string n1.nm, .slice xa n1.al.length xc, .slice xk n1.kids.length xd, .string n1.tx, .int .i64 n1.at'] 29 (0, 0)) := by
                    have := heap_alloc_new (wq.alloc (.cells #[] 29)) (.cells #[.int .i64 n1.kind, .string n1.sp, .string n1.nm, .slice xa n1.al.length xc, .slice xk n1.kids.length xd, .string n1.tx, .int .i64 n1.at'] 29)
                    rwa [show (wq.alloc (.cells #[] 29)).heap.size = wq.heap.size + 1 by simp] at this
                  have blkC : ((wq.alloc (.cells #[.int .i64 n1.kind, .string n1.sp, .string n1.nm, .slice xa n1.al.length xc, .slice xk n1.kids.length xd, .string n1.tx, .int .i64 n1.at'] 29)).alloc (.cells #[] 29)).drew.heap[wq.heap.size]? = some (.cells #[.int .i64 n1.kind, .string n1.sp, .string n1.nm, .slice xa n1.al.length xc, .slice xk n1.kids.length xd, .string n1.tx, .int .i64 n1.at'] 29 (0, 0)) := (heap_alloc_old (wq.alloc (.cells #[.int .i64 n1.kind, .string n1.sp, .string n1.nm, .slice xa n1.al.length xc, .slice xk n1.kids.length xd, .string n1.tx, .int .i64 n1.at'] 29)) (.cells #[] 29) (by simp)).trans (heap_alloc_new wq (.cells #[.int .i64 n1.kind, .string n1.sp, .string n1.nm, .slice xa n1.al.length xc, .slice xk n1.kids.length xd, .string n1.tx, .int .i64 n1.at'] 29))
                  refine wp_region_late (S := fun w' => NK (w.heap.size + 2) w2.heap.size (.slice (some ⟨g, 0, none⟩) n cap) (.int .i64 n1.kind) (.string n1.sp) (.string n1.nm) (.slice xa n1.al.length xc) (.slice xk n1.kids.length xd) (.string n1.tx) (.int .i64 n1.at') w') (D := [7, 8]) (by kernel_rfl) ?_
                  refine anyL_take (i := 1) (oi := { dst := some 100, op := Go.Op.fieldAddr 29 (Go.Operand.tmp 8) 4, type := 0, pos := "ref.go:60", after := #[], guard := none }) (v := ?_) rfl (by decide) (by kernel_rfl) (by kernel_rfl) (by kernel_rfl) (by kernel_rfl) (fun _ _ _ h => h) (Or.inl ⟨by rfl, ?_⟩) hS0 ?_
                  rotate_left
                  · intro wz hSz
                    obtain ⟨z0, z1, z2, z3, z4, z5, z6, z7⟩ := hSz
                    go_simp
                    (try with_reducible rfl)
                  try simp only [Act.put, List.setIfInBounds_toArray, List.set_cons_zero, List.set_cons_succ]
                  refine anyL_take (i := 2) (oi := { dst := some 101, op := Go.Op.load 27 (Go.Operand.tmp 100), type := 27, pos := "ref.go:60", after := #[{ on := 1, ground := Go.Ground.data }], guard := none }) (v := ?_) rfl (by decide) (by kernel_rfl) (by kernel_rfl) (by kernel_rfl) (by kernel_rfl) (fun _ _ _ h => h) (Or.inl ⟨by rfl, ?_⟩) hS0 ?_
                  rotate_left
                  · intro wz hSz
                    obtain ⟨z0, z1, z2, z3, z4, z5, z6, z7⟩ := hSz
                    go_simp
                    (try with_reducible rfl)
                  try simp only [Act.put, List.setIfInBounds_toArray, List.set_cons_zero, List.set_cons_succ]
                  refine anyL_take (i := 4) (oi := { dst := some 103, op := Go.Op.load 29 (Go.Operand.tmp 10), type := 29, pos := "ref.go:60", after := #[], guard := none }) (v := ?_) rfl (by decide) (by kernel_rfl) (by kernel_rfl) (by kernel_rfl) (by kernel_rfl) (fun _ _ _ h => h) (Or.inl ⟨by rfl, ?_⟩) hS0 ?_
                  rotate_left
                  · intro wz hSz
                    obtain ⟨z0, z1, z2, z3, z4, z5, z6, z7⟩ := hSz
                    go_simp
                    (try with_reducible rfl)
                  try simp only [Act.put, List.setIfInBounds_toArray, List.set_cons_zero, List.set_cons_succ]
                  refine anyL_ready (rs := [0, 5]) (by kernel_rfl) (by simp) ?_
                  refine AllL.cons (o := { dst := some 99, op := Go.Op.buildSlice 27 0 #[], type := 27, pos := "ref.go:60", after := #[], guard := none }) rfl (fun K hK => ?_) ?_
                  · go_simp
                    refine hK _ _ (hSB _ (bA _)) ?_
                    clear hK K
                    try simp only [Act.put, List.setIfInBounds_toArray, List.set_cons_zero, List.set_cons_succ]
                    refine anyL_ready (rs := [3, 5]) (by kernel_rfl) (by simp) ?_
                    refine AllL.cons (o := { dst := some 102, op := Go.Op.call { callee := Go.Callee.builtin Go.Builtin.append, args := #[Go.Operand.tmp 99, Go.Operand.tmp 101], argTypes := #[27, 27] }, type := 27, pos := "ref.go:60", after := #[{ on := 0, ground := Go.Ground.data }, { on := 2, ground := Go.Ground.data }], guard := none }) rfl (fun K hK => ?_) ?_
                    · refine step_copy rfl (.tmp 99) (.tmp 101) rfl wq.heap.size wq.heap.size g n cap xs rfl rfl hE1 hxl (row_news own0 (bA _)) hx1 hn0 hn9 ((bA _)).size ?_
                      intro g1 cap1 w2 own1 grow1 hg1
                      try go_simp
                      have b2 := gb (bA _) grow1 ((bA _)).size (Nat.le_refl _)
                      refine hK _ _ (hSB _ b2) ?_
                      clear hK K
                      try simp only [Act.put, List.setIfInBounds_toArray, List.set_cons_zero, List.set_cons_succ]
                      refine anyL_ready (rs := [5]) (by kernel_rfl) (by simp) ?_
                      refine AllL.cons (o := { dst := some 104, op := Go.Op.buildSlice 27 1 #[(0, Go.Operand.tmp 103)], type := 27, pos := "ref.go:60", after := #[{ on := 4, ground := Go.Ground.data }], guard := none }) rfl (fun K hK => ?_) ?_
                      · go_simp
                        refine hK _ _ (hSB _ (b2.alloc b2.size _)) ?_
                        clear hK K
                        try simp only [Act.put, List.setIfInBounds_toArray, List.set_cons_zero, List.set_cons_succ]
                        refine anyL_ready (rs := [6]) (by kernel_rfl) (by simp) ?_
                        refine AllL.cons (o := { dst := some 105, op := Go.Op.call { callee := Go.Callee.builtin Go.Builtin.append, args := #[Go.Operand.tmp 102, Go.Operand.tmp 104], argTypes := #[27, 27] }, type := 27, pos := "ref.go:60", after := #[{ on := 3, ground := Go.Ground.data }, { on := 5, ground := Go.Ground.data }, { on := 3, ground := Go.Ground.chain }], guard := none }) rfl (fun K hK => ?_) ?_
                        · refine step_one rfl (.tmp 102) (.tmp 104) rfl wq.heap.size w2.heap.size n xs (.slice (some ⟨g1, 0, none⟩) n cap1) (.int .i64 n1.kind) (.string n1.sp) (.string n1.nm) (.slice xa n1.al.length xc) (.slice xk n1.kids.length xd) (.string n1.tx) (.int .i64 n1.at') rfl rfl (own1.alloc _) (heap_alloc_new w2 _) hk1 hn9 ((b2.alloc b2.size _)).size ?_
                          intro g5 cap5 w5 own5 grow5
                          try go_simp
                          have b5 := gb (b2.alloc b2.size _) grow5 ((b2.alloc b2.size _)).size hg1
                          refine hK _ _ (hSB _ b5) ?_
                          clear hK K
                          try simp only [Act.put, List.setIfInBounds_toArray, List.set_cons_zero, List.set_cons_succ]
                          refine anyL_takeD (i := 7) (oi := { dst := some 106, op := Go.Op.fieldAddr 29 (Go.Operand.tmp 8) 4, type := 0, pos := "ref.go:60", after := #[{ on := 0, ground := Go.Ground.phase }, { on := 1, ground := Go.Ground.phase }, { on := 2, ground := Go.Ground.phase }, { on := 3, ground := Go.Ground.phase }, { on := 4, ground := Go.Ground.phase }, { on := 5, ground := Go.Ground.phase }, { on := 6, ground := Go.Ground.phase }], guard := none }) (v := ?_) rfl (by decide) (by kernel_rfl) (by kernel_rfl) (by kernel_rfl) (fun _ _ _ h => h) (Or.inl ⟨by rfl, ?_⟩) ?_
                          rotate_left
                          · intro wz _
                            go_simp
                            (try with_reducible rfl)
                          try simp only [Act.put, List.setIfInBounds_toArray, List.set_cons_zero, List.set_cons_succ]
                          refine anyL_ready (rs := [8]) (by kernel_rfl) (by simp) ?_
                          refine AllL.last (o := { dst := none, op := Go.Op.store 27 (Go.Operand.tmp 106) (Go.Operand.tmp 105), type := 0, pos := "ref.go:60", after := #[{ on := 7, ground := Go.Ground.data }, { on := 6, ground := Go.Ground.data }, { on := 6, ground := Go.Ground.chain }, { on := 0, ground := Go.Ground.phase }, { on := 1, ground := Go.Ground.phase }, { on := 2, ground := Go.Ground.phase }, { on := 3, ground := Go.Ground.phase }, { on := 4, ground := Go.Ground.phase }, { on := 5, ground := Go.Ground.phase }, { on := 6, ground := Go.Ground.phase }], guard := none }) rfl (by decide) (fun K hK => ?_)
                          have s5 := (hNod.more b5).cell 4
                          have f5 := (hNod.more b5).fr 4
                          simp only [List.getElem?_toArray, List.getElem?_cons_succ, List.getElem?_cons_zero] at s5
                          go_simp
                          refine hK _ _ ?_
                          clear hK K s5 f5
                          try simp only [Act.put, List.setIfInBounds_toArray, List.set_cons_zero, List.set_cons_succ]
                          refine anyL_done (by kernel_rfl) ?_ _
                          have HPU := Lib.hid (HLQ.out.push b5 (fun L hL => HKQ.out L hL) (by rw [← HNN.out]; exact own5))
                          have HNP := Lib.hid HPU.out.par.cells.2.1
                          go_wp2
                          go_roundw
                          case rel => exact ⟨j2, G, kids ++ [n1], _, _, hj2l, by omega, by omega, HRN.out, by rw [List.length_append, List.length_singleton]; omega, HKU.out, fun e => absurd e (by simp), HPU.out⟩
                          case measure => rw [M1.out, HNP.out]; simp [intOf]; omega
                        exact AllL.nil
                      exact AllL.nil
                    refine AllL.cons (o := { dst := some 104, op := Go.Op.buildSlice 27 1 #[(0, Go.Operand.tmp 103)], type := 27, pos := "ref.go:60", after := #[{ on := 4, ground := Go.Ground.data }], guard := none }) rfl (fun K hK => ?_) ?_
                    · go_simp
                      refine hK _ _ (hSB _ (bAA _ _)) ?_
                      clear hK K
                      try simp only [Act.put, List.setIfInBounds_toArray, List.set_cons_zero, List.set_cons_succ]
                      refine anyL_ready (rs := [3]) (by kernel_rfl) (by simp) ?_
                      refine AllL.cons (o := { dst := some 102, op := Go.Op.call { callee := Go.Callee.builtin Go.Builtin.append, args := #[Go.Operand.tmp 99, Go.Operand.tmp 101], argTypes := #[27, 27] }, type := 27, pos := "ref.go:60", after := #[{ on := 0, ground := Go.Ground.data }, { on := 2, ground := Go.Ground.data }], guard := none }) rfl (fun K hK => ?_) ?_
                      · refine step_copy rfl (.tmp 99) (.tmp 101) rfl wq.heap.size wq.heap.size g n cap xs rfl rfl hE1K hxl (row_news own0 (bAA _ _)) hx1 hn0 hn9 ((bAA _ _)).size ?_
                        intro g1 cap1 w2 own1 grow1 hg1
                        try go_simp
                        have b2 := gb (bAA _ _) grow1 ((bAA _ _)).size (Nat.le_refl _)
                        refine hK _ _ (hSB _ b2) ?_
                        clear hK K
                        try simp only [Act.put, List.setIfInBounds_toArray, List.set_cons_zero, List.set_cons_succ]
                        refine anyL_ready (rs := [6]) (by kernel_rfl) (by simp) ?_
                        refine AllL.cons (o := { dst := some 105, op := Go.Op.call { callee := Go.Callee.builtin Go.Builtin.append, args := #[Go.Operand.tmp 102, Go.Operand.tmp 104], argTypes := #[27, 27] }, type := 27, pos := "ref.go:60", after := #[{ on := 3, ground := Go.Ground.data }, { on := 5, ground := Go.Ground.data }, { on := 3, ground := Go.Ground.chain }], guard := none }) rfl (fun K hK => ?_) ?_
                        · refine step_one rfl (.tmp 102) (.tmp 104) rfl wq.heap.size (wq.heap.size + 1) n xs (.slice (some ⟨g1, 0, none⟩) n cap1) (.int .i64 n1.kind) (.string n1.sp) (.string n1.nm) (.slice xa n1.al.length xc) (.slice xk n1.kids.length xd) (.string n1.tx) (.int .i64 n1.at') rfl rfl own1 (heap_grown grow1 (by omega) blkB) hk1 hn9 (b2).size ?_
                          intro g5 cap5 w5 own5 grow5
                          try go_simp
                          have b5 := gb b2 grow5 (b2).size hg1
                          refine hK _ _ (hSB _ b5) ?_
                          clear hK K
                          try simp only [Act.put, List.setIfInBounds_toArray, List.set_cons_zero, List.set_cons_succ]
                          refine anyL_takeD (i := 7) (oi := { dst := some 106, op := Go.Op.fieldAddr 29 (Go.Operand.tmp 8) 4, type := 0, pos := "ref.go:60", after := #[{ on := 0, ground := Go.Ground.phase }, { on := 1, ground := Go.Ground.phase }, { on := 2, ground := Go.Ground.phase }, { on := 3, ground := Go.Ground.phase }, { on := 4, ground := Go.Ground.phase }, { on := 5, ground := Go.Ground.phase }, { on := 6, ground := Go.Ground.phase }], guard := none }) (v := ?_) rfl (by decide) (by kernel_rfl) (by kernel_rfl) (by kernel_rfl) (fun _ _ _ h => h) (Or.inl ⟨by rfl, ?_⟩) ?_
                          rotate_left
                          · intro wz _
                            go_simp
                            (try with_reducible rfl)
                          try simp only [Act.put, List.setIfInBounds_toArray, List.set_cons_zero, List.set_cons_succ]
                          refine anyL_ready (rs := [8]) (by kernel_rfl) (by simp) ?_
                          refine AllL.last (o := { dst := none, op := Go.Op.store 27 (Go.Operand.tmp 106) (Go.Operand.tmp 105), type := 0, pos := "ref.go:60", after := #[{ on := 7, ground := Go.Ground.data }, { on := 6, ground := Go.Ground.data }, { on := 6, ground := Go.Ground.chain }, { on := 0, ground := Go.Ground.phase }, { on := 1, ground := Go.Ground.phase }, { on := 2, ground := Go.Ground.phase }, { on := 3, ground := Go.Ground.phase }, { on := 4, ground := Go.Ground.phase }, { on := 5, ground := Go.Ground.phase }, { on := 6, ground := Go.Ground.phase }], guard := none }) rfl (by decide) (fun K hK => ?_)
                          have s5 := (hNod.more b5).cell 4
                          have f5 := (hNod.more b5).fr 4
                          simp only [List.getElem?_toArray, List.getElem?_cons_succ, List.getElem?_cons_zero] at s5
                          go_simp
                          refine hK _ _ ?_
                          clear hK K s5 f5
                          try simp only [Act.put, List.setIfInBounds_toArray, List.set_cons_zero, List.set_cons_succ]
                          refine anyL_done (by kernel_rfl) ?_ _
                          have HPU := Lib.hid (HLQ.out.push b5 (fun L hL => HKQ.out L hL) (by rw [← HNN.out]; exact own5))
                          have HNP := Lib.hid HPU.out.par.cells.2.1
                          go_wp2
                          go_roundw
                          case rel => exact ⟨j2, G, kids ++ [n1], _, _, hj2l, by omega, by omega, HRN.out, by rw [List.length_append, List.length_singleton]; omega, HKU.out, fun e => absurd e (by simp), HPU.out⟩
                          case measure => rw [M1.out, HNP.out]; simp [intOf]; omega
                        exact AllL.nil
                      exact AllL.nil
                    exact AllL.nil
                  refine AllL.cons (o := { dst := some 104, op := Go.Op.buildSlice 27 1 #[(0, Go.Operand.tmp 103)], type := 27, pos := "ref.go:60", after := #[{ on := 4, ground := Go.Ground.data }], guard := none }) rfl (fun K hK => ?_) ?_
                  · go_simp
                    refine hK _ _ (hSB _ (bA _)) ?_
                    clear hK K
                    try simp only [Act.put, List.setIfInBounds_toArray, List.set_cons_zero, List.set_cons_succ]
                    refine anyL_ready (rs := [0]) (by kernel_rfl) (by simp) ?_
                    refine AllL.cons (o := { dst := some 99, op := Go.Op.buildSlice 27 0 #[], type := 27, pos := "ref.go:60", after := #[], guard := none }) rfl (fun K hK => ?_) ?_
                    · go_simp
                      refine hK _ _ (hSB _ (bAA _ _)) ?_
                      clear hK K
                      try simp only [Act.put, List.setIfInBounds_toArray, List.set_cons_zero, List.set_cons_succ]
                      refine anyL_ready (rs := [3]) (by kernel_rfl) (by simp) ?_
                      refine AllL.cons (o := { dst := some 102, op := Go.Op.call { callee := Go.Callee.builtin Go.Builtin.append, args := #[Go.Operand.tmp 99, Go.Operand.tmp 101], argTypes := #[27, 27] }, type := 27, pos := "ref.go:60", after := #[{ on := 0, ground := Go.Ground.data }, { on := 2, ground := Go.Ground.data }], guard := none }) rfl (fun K hK => ?_) ?_
                      · refine step_copy rfl (.tmp 99) (.tmp 101) rfl wq.heap.size (wq.heap.size + 1) g n cap xs rfl rfl hE2 hxl (row_news own0 (bAA _ _)) hx1 hn0 hn9 ((bAA _ _)).size ?_
                        intro g1 cap1 w2 own1 grow1 hg1
                        try go_simp
                        have b2 := gb (bAA _ _) grow1 ((bAA _ _)).size (Nat.le_succ _)
                        refine hK _ _ (hSB _ b2) ?_
                        clear hK K
                        try simp only [Act.put, List.setIfInBounds_toArray, List.set_cons_zero, List.set_cons_succ]
                        refine anyL_ready (rs := [6]) (by kernel_rfl) (by simp) ?_
                        refine AllL.cons (o := { dst := some 105, op := Go.Op.call { callee := Go.Callee.builtin Go.Builtin.append, args := #[Go.Operand.tmp 102, Go.Operand.tmp 104], argTypes := #[27, 27] }, type := 27, pos := "ref.go:60", after := #[{ on := 3, ground := Go.Ground.data }, { on := 5, ground := Go.Ground.data }, { on := 3, ground := Go.Ground.chain }], guard := none }) rfl (fun K hK => ?_) ?_
                        · refine step_one rfl (.tmp 102) (.tmp 104) rfl wq.heap.size wq.heap.size n xs (.slice (some ⟨g1, 0, none⟩) n cap1) (.int .i64 n1.kind) (.string n1.sp) (.string n1.nm) (.slice xa n1.al.length xc) (.slice xk n1.kids.length xd) (.string n1.tx) (.int .i64 n1.at') rfl rfl own1 (heap_grown grow1 (by omega) blkC) hk1 hn9 (b2).size ?_
                          intro g5 cap5 w5 own5 grow5
                          try go_simp
                          have b5 := gb b2 grow5 (b2).size hg1
                          refine hK _ _ (hSB _ b5) ?_
                          clear hK K
                          try simp only [Act.put, List.setIfInBounds_toArray, List.set_cons_zero, List.set_cons_succ]
                          refine anyL_takeD (i := 7) (oi := { dst := some 106, op := Go.Op.fieldAddr 29 (Go.Operand.tmp 8) 4, type := 0, pos := "ref.go:60", after := #[{ on := 0, ground := Go.Ground.phase }, { on := 1, ground := Go.Ground.phase }, { on := 2, ground := Go.Ground.phase }, { on := 3, ground := Go.Ground.phase }, { on := 4, ground := Go.Ground.phase }, { on := 5, ground := Go.Ground.phase }, { on := 6, ground := Go.Ground.phase }], guard := none }) (v := ?_) rfl (by decide) (by kernel_rfl) (by kernel_rfl) (by kernel_rfl) (fun _ _ _ h => h) (Or.inl ⟨by rfl, ?_⟩) ?_
                          rotate_left
                          · intro wz _
                            go_simp
                            (try with_reducible rfl)
                          try simp only [Act.put, List.setIfInBounds_toArray, List.set_cons_zero, List.set_cons_succ]
                          refine anyL_ready (rs := [8]) (by kernel_rfl) (by simp) ?_
                          refine AllL.last (o := { dst := none, op := Go.Op.store 27 (Go.Operand.tmp 106) (Go.Operand.tmp 105), type := 0, pos := "ref.go:60", after := #[{ on := 7, ground := Go.Ground.data }, { on := 6, ground := Go.Ground.data }, { on := 6, ground := Go.Ground.chain }, { on := 0, ground := Go.Ground.phase }, { on := 1, ground := Go.Ground.phase }, { on := 2, ground := Go.Ground.phase }, { on := 3, ground := Go.Ground.phase }, { on := 4, ground := Go.Ground.phase }, { on := 5, ground := Go.Ground.phase }, { on := 6, ground := Go.Ground.phase }], guard := none }) rfl (by decide) (fun K hK => ?_)
                          have s5 := (hNod.more b5).cell 4
                          have f5 := (hNod.more b5).fr 4
                          simp only [List.getElem?_toArray, List.getElem?_cons_succ, List.getElem?_cons_zero] at s5
                          go_simp
                          refine hK _ _ ?_
                          clear hK K s5 f5
                          try simp only [Act.put, List.setIfInBounds_toArray, List.set_cons_zero, List.set_cons_succ]
                          refine anyL_done (by kernel_rfl) ?_ _
                          have HPU := Lib.hid (HLQ.out.push b5 (fun L hL => HKQ.out L hL) (by rw [← HNN.out]; exact own5))
                          have HNP := Lib.hid HPU.out.par.cells.2.1
                          go_wp2
                          go_roundw
                          case rel => exact ⟨j2, G, kids ++ [n1], _, _, hj2l, by omega, by omega, HRN.out, by rw [List.length_append, List.length_singleton]; omega, HKU.out, fun e => absurd e (by simp), HPU.out⟩
                          case measure => rw [M1.out, HNP.out]; simp [intOf]; omega
                        exact AllL.nil
                      exact AllL.nil
                    exact AllL.nil
                  exact AllL.nil
              · have HRN := Lib.hid (HRM.out.trans (if_pos he2))
                have heb : (e2 != 0) = true := by simpa using he2
                have hae := h1 he2
                have hRb := (HL4.out.res.keep kk2 (by omega)).more bq
                have hKq := (HL4.out.keep.trans kk2).more bq
                obtain ⟨⟨r0, r1, r2, r3, r4, r5, r6⟩, g0, g1, g2, g3, g4, g5, g6⟩ := hRb.seven
                have HKQ := Lib.hid hKq
                have HLR := Lib.hid (show ∀ L, LeftOut w p (some ad) l L → LeftOut W4 p (some ad) l (L ++ [w.heap.size]) from fun L hL => HL4.out.res1 hL)
                clear HRM HB2 h0 h1 hP2 hP3 kk2 hKq hRb hKb hzk hkz
                go_wp2
                exact bodyPost_ret (v := .agg #[.int .i64 n1.kind, .string n1.sp, .string n1.nm, .slice xa n1.al.length xc, .slice xk n1.kids.length xd, .string n1.tx, .int .i64 n1.at']) (by simp [results, Tryd.results48, go_sem, cell_set_same, r0, r1, r2, r3, r4, r5, r6]) rfl (by rw [HRN.out]; exact ⟨_, rfl, ⟨_, _, par_sev HP3.out hRp _ _ _ _ _ _ _, fun e => absurd e he2, fun _ => hae⟩, keep_sev HKQ.out (Nat.le_refl _) _ _ _ _ _ _ _, fun L hL => node_res ((HN2.out _ (HLR.out L hL)).go (Goes.below HBQ.out)) (sevK2 _ _ _ _ _ _ _ _ _)⟩)
            · have HRM := Lib.hid ((HRL.out.trans (if_neg k2)).trans (if_neg k1))
              have k1b : (u.kind == 1) = false := by simpa using k1
              obtain ⟨wq, hwq⟩ : ∃ wq, wq = W4.setCell ⟨p, 1, none⟩ (.int .i64 ((j : Int) + 1)) := ⟨_, rfl⟩
              have hL5 : ElR w p (some ad) l.length ct l w.heap.size t qa ca a0 (j + 1) kids (.slice Ak kids.length Ck) xs wq := HL4.out.keeps (by rw [hwq]; exact (Keep.refl p W4).set 1 _) (by rw [hwq, show ((j + 1 : Nat) : Int) = (j : Int) + 1 by omega]; exact HL4.out.par.set1 _)
              have hU5 : Blk wq U #[.int .i64 u.kind, .string (ofBytes u.nm), .slice qu u.al.length cu, .bool u.em, .string (ofBytes u.tx), .int .i64 u.at'] 91 := by rw [hwq]; exact HU.out.own (q := ⟨p, 1, none⟩) (by show p ≠ U; omega) _
              go_upto_region 21 with fail
              simp only [← hwq]
              clear hwq HRL HL4 HU k2 k2b k1 k1b u0 u1 u4 u5 t1 p1 q1 hw1
              have hNod := hL5.nod
              have hNz := hNod.lt
              have hUz5 := hU5.lt
              have n4 := hNod.cell 4
              simp only [List.getElem?_toArray, List.getElem?_cons_succ, List.getElem?_cons_zero] at n4
              have u4 : wq.cell? ⟨U, 4, none⟩ = some (.string (ofBytes u.tx)) := hU5.cell 4
              have u5 : wq.cell? ⟨U, 5, none⟩ = some (.int .i64 u.at') := hU5.cell 5
              have hk1 : ∀ y ∈ ([.int .i64 1, .string ⟨#[]⟩, .string ⟨#[]⟩, .slice none 0 0, .slice none 0 0, .string (ofBytes u.tx), .int .i64 u.at'] : List Value), y.oneCell' = true := by
                intro y hy
                simp only [List.mem_cons, List.not_mem_nil, or_false] at hy
                rcases hy with rfl | rfl | rfl | rfl | rfl | rfl | rfl <;> rfl
              have HLQ := Lib.hid hL5
              have hNU : NU (w.heap.size + 2) U (.slice Ak kids.length Ck) (.string (ofBytes u.tx)) (.int .i64 u.at') wq := ⟨n4, u4, u5⟩
              have HNU := Lib.hid hNU
              have HKV := Lib.hid (show ∀ k ∈ kids ++ [charN u], k.tx.size ≤ (j + 1) * 100050004 from fun k hk => by
                have hm : (j + 1) * 100050004 = j * 100050004 + 100050004 := Nat.succ_mul _ _
                rcases List.mem_append.1 hk with hk | hk
                · have := HKT.out k hk
                  exact Nat.le_trans this (by rw [hm]; exact Nat.le_add_right _ _)
                · rw [List.mem_singleton.1 hk]
                  show (ofBytes u.tx).size ≤ _
                  rw [ofBytes_size, hm]
                  exact Nat.le_trans hut (Nat.le_add_left _ _))
              clear hL5 hU5 hNU
              rcases List.eq_nil_or_concat kids with hk0 | ⟨ks, k, hks⟩
              · subst hk0
                obtain ⟨hx1, hx2⟩ := HLQ.out.row
                have hxs : xs = [] := List.length_eq_zero_iff.1 (by rw [hx1]; rfl)
                subst hxs
                have hA := HKN.out rfl
                injection hA with hA1 hA2 hA3
                subst hA1
                subst hA3
                clear hx1 hx2
                have n4' : wq.cell? ⟨w.heap.size + 2, 4, none⟩ = some (.slice none 0 0) := n4
                clear n4
                have HRN := Lib.hid (show R = kidsP l z G d t (j + 1) (([] : List NodeD) ++ [charN u]) from HRM.out)
                have hwn : IntKind.i64.wrap (0 - 1) = -1 := by decide
                have hSB : ∀ w', Below wq.heap.size wq w' → NU (w.heap.size + 2) U (.slice none 0 0) (.string (ofBytes u.tx)) (.int .i64 u.at') w' := fun w' hb => HNU.out.below hb hNz hUz5
                clear HRM
                go_wp2
                clear n4' u4 u5
                have bR : Below wq.heap.size wq wq := Below.refl _ _
                have bA : ∀ o, Below wq.heap.size wq (wq.alloc o).drew := fun o => (bR.alloc bR.size o).drew
                have bAA : ∀ o o', Below wq.heap.size wq ((wq.alloc o).alloc o').drew := fun o o' => ((bR.alloc bR.size o).alloc (bR.alloc bR.size o).size o').drew
                have hS0 := hSB _ bR.drew
                have hE1 := (made_own wq wq.heap.size (Nat.le_refl _)).drew
                have hE1K := ((made_own wq wq.heap.size (Nat.le_refl _)).alloc (.cells #[.int .i64 1, .string ⟨#[]⟩, .string ⟨#[]⟩, .slice none 0 0, .slice none 0 0, .string (ofBytes u.tx), .int .i64 u.at'] 29)).drew
                have hE2 : ((wq.alloc (.cells #[.int .i64 1, .string ⟨#[]⟩, .string ⟨#[]⟩, .slice none 0 0, .slice none 0 0, .string (ofBytes u.tx), .int .i64 u.at'] 29)).alloc (.cells #[] 29)).drew.ownsRow wq.heap.size 29 7 (.slice (some ⟨wq.heap.size + 1, 0, none⟩) 0 0) 0 [] := by
                  have := (made_own (wq.alloc (.cells #[.int .i64 1, .string ⟨#[]⟩, .string ⟨#[]⟩, .slice none 0 0, .slice none 0 0, .string (ofBytes u.tx), .int .i64 u.at'] 29)) wq.heap.size (bR.alloc bR.size _).size).drew
                  rwa [show (wq.alloc (.cells #[.int .i64 1, .string ⟨#[]⟩, .string ⟨#[]⟩, .slice none 0 0, .slice none 0 0, .string (ofBytes u.tx), .int .i64 u.at'] 29)).heap.size = wq.heap.size + 1 by simp] at this
                have blkB : ((wq.alloc (.cells #[] 29)).alloc (.cells #[.int .i64 1, .string ⟨#[]⟩, .string ⟨#[]⟩, .slice none 0 0, .slice none 0 0, .string (ofBytes u.tx), .int .i64 u.at'] 29)).drew.heap[wq.heap.size + 1]? = some (.cells #[.int .i64 1, .string ⟨#[]⟩, .string ⟨#[]⟩, .slice none 0 0, .slice none 0 0, .string (ofBytes u.tx), .int .i64 u.at'] 29 (0, 0)) := by
                  have := heap_alloc_new (wq.alloc (.cells #[] 29)) (.cells #[.int .i64 1, .string ⟨#[]⟩, .string ⟨#[]⟩, .slice none 0 0, .slice none 0 0, .string (ofBytes u.tx), .int .i64 u.at'] 29)
                  rwa [show (wq.alloc (.cells #[] 29)).heap.size = wq.heap.size + 1 by simp] at this
                have blkC : ((wq.alloc (.cells #[.int .i64 1, .string ⟨#[]⟩, .string ⟨#[]⟩, .slice none 0 0, .slice none 0 0, .string (ofBytes u.tx), .int .i64 u.at'] 29)).alloc (.cells #[] 29)).drew.heap[wq.heap.size]? = some (.cells #[.int .i64 1, .string ⟨#[]⟩, .string ⟨#[]⟩, .slice none 0 0, .slice none 0 0, .string (ofBytes u.tx), .int .i64 u.at'] 29 (0, 0)) := (heap_alloc_old (wq.alloc (.cells #[.int .i64 1, .string ⟨#[]⟩, .string ⟨#[]⟩, .slice none 0 0, .slice none 0 0, .string (ofBytes u.tx), .int .i64 u.at'] 29)) (.cells #[] 29) (by simp)).trans (heap_alloc_new wq (.cells #[.int .i64 1, .string ⟨#[]⟩, .string ⟨#[]⟩, .slice none 0 0, .slice none 0 0, .string (ofBytes u.tx), .int .i64 u.at'] 29))
                refine wp_region_late (S := fun w' => NU (w.heap.size + 2) U (.slice none 0 0) (.string (ofBytes u.tx)) (.int .i64 u.at') w') (D := [11, 12]) (by kernel_rfl) ?_
                refine anyL_take (i := 1) (oi := { dst := some 141, op := Go.Op.fieldAddr 29 (Go.Operand.tmp 8) 4, type := 0, pos := "ref.go:68", after := #[], guard := none }) (v := ?_) rfl (by decide) (by kernel_rfl) (by kernel_rfl) (by kernel_rfl) (by kernel_rfl) (fun _ _ _ h => h) (Or.inl ⟨by rfl, ?_⟩) hS0 ?_
                rotate_left
                · intro wz hSz
                  obtain ⟨z0, z1, z2⟩ := hSz
                  go_simp
                  (try with_reducible rfl)
                try simp only [Act.put, List.setIfInBounds_toArray, List.set_cons_zero, List.set_cons_succ]
                refine anyL_take (i := 2) (oi := { dst := some 142, op := Go.Op.load 27 (Go.Operand.tmp 141), type := 27, pos := "ref.go:68", after := #[{ on := 1, ground := Go.Ground.data }], guard := none }) (v := ?_) rfl (by decide) (by kernel_rfl) (by kernel_rfl) (by kernel_rfl) (by kernel_rfl) (fun _ _ _ h => h) (Or.inl ⟨by rfl, ?_⟩) hS0 ?_
                rotate_left
                · intro wz hSz
                  obtain ⟨z0, z1, z2⟩ := hSz
                  go_simp
                  (try with_reducible rfl)
                try simp only [Act.put, List.setIfInBounds_toArray, List.set_cons_zero, List.set_cons_succ]
                refine anyL_take (i := 4) (oi := { dst := some 144, op := Go.Op.fieldAddr 91 (Go.Operand.tmp 9) 4, type := 0, pos := "ref.go:68", after := #[], guard := none }) (v := ?_) rfl (by decide) (by kernel_rfl) (by kernel_rfl) (by kernel_rfl) (by kernel_rfl) (fun _ _ _ h => h) (Or.inl ⟨by rfl, ?_⟩) hS0 ?_
                rotate_left
                · intro wz hSz
                  obtain ⟨z0, z1, z2⟩ := hSz
                  go_simp
                  (try with_reducible rfl)
                try simp only [Act.put, List.setIfInBounds_toArray, List.set_cons_zero, List.set_cons_succ]
                refine anyL_take (i := 5) (oi := { dst := some 145, op := Go.Op.load 9 (Go.Operand.tmp 144), type := 9, pos := "ref.go:68", after := #[{ on := 4, ground := Go.Ground.data }], guard := none }) (v := ?_) rfl (by decide) (by kernel_rfl) (by kernel_rfl) (by kernel_rfl) (by kernel_rfl) (fun _ _ _ h => h) (Or.inl ⟨by rfl, ?_⟩) hS0 ?_
                rotate_left
                · intro wz hSz
                  obtain ⟨z0, z1, z2⟩ := hSz
                  go_simp
                  (try with_reducible rfl)
                try simp only [Act.put, List.setIfInBounds_toArray, List.set_cons_zero, List.set_cons_succ]
                refine anyL_take (i := 6) (oi := { dst := some 146, op := Go.Op.fieldAddr 91 (Go.Operand.tmp 9) 5, type := 0, pos := "ref.go:68", after := #[], guard := none }) (v := ?_) rfl (by decide) (by kernel_rfl) (by kernel_rfl) (by kernel_rfl) (by kernel_rfl) (fun _ _ _ h => h) (Or.inl ⟨by rfl, ?_⟩) hS0 ?_
                rotate_left
                · intro wz hSz
                  obtain ⟨z0, z1, z2⟩ := hSz
                  go_simp
                  (try with_reducible rfl)
                try simp only [Act.put, List.setIfInBounds_toArray, List.set_cons_zero, List.set_cons_succ]
                refine anyL_take (i := 7) (oi := { dst := some 147, op := Go.Op.load 3 (Go.Operand.tmp 146), type := 3, pos := "ref.go:68", after := #[{ on := 6, ground := Go.Ground.data }], guard := none }) (v := ?_) rfl (by decide) (by kernel_rfl) (by kernel_rfl) (by kernel_rfl) (by kernel_rfl) (fun _ _ _ h => h) (Or.inl ⟨by rfl, ?_⟩) hS0 ?_
                rotate_left
                · intro wz hSz
                  obtain ⟨z0, z1, z2⟩ := hSz
                  go_simp
                  (try with_reducible rfl)
                try simp only [Act.put, List.setIfInBounds_toArray, List.set_cons_zero, List.set_cons_succ]
                refine anyL_take (i := 8) (oi := { dst := some 148, op := Go.Op.build 29 #[(0, Go.Operand.const (Go.Value.int Go.IntKind.i64 1)), (5, Go.Operand.tmp 145), (6, Go.Operand.tmp 147)], type := 29, pos := "ref.go:68", after := #[{ on := 5, ground := Go.Ground.data }, { on := 7, ground := Go.Ground.data }], guard := none }) (v := ?_) rfl (by decide) (by kernel_rfl) (by kernel_rfl) (by kernel_rfl) (by kernel_rfl) (fun _ _ _ h => h) (Or.inl ⟨by rfl, ?_⟩) hS0 ?_
                rotate_left
                · intro wz hSz
                  obtain ⟨z0, z1, z2⟩ := hSz
                  go_simp
                  (try with_reducible rfl)
                try simp only [Act.put, List.setIfInBounds_toArray, List.set_cons_zero, List.set_cons_succ]
                refine anyL_ready (rs := [0, 9]) (by kernel_rfl) (by simp) ?_
                refine AllL.cons (o := { dst := some 140, op := Go.Op.buildSlice 27 0 #[], type := 27, pos := "ref.go:68", after := #[], guard := none }) rfl (fun K hK => ?_) ?_
                · go_simp
                  refine hK _ _ (hSB _ (bA _)) ?_
                  clear hK K
                  try simp only [Act.put, List.setIfInBounds_toArray, List.set_cons_zero, List.set_cons_succ]
                  refine anyL_ready (rs := [3, 9]) (by kernel_rfl) (by simp) ?_
                  refine AllL.cons (o := { dst := some 143, op := Go.Op.call { callee := Go.Callee.builtin Go.Builtin.append, args := #[Go.Operand.tmp 140, Go.Operand.tmp 142], argTypes := #[27, 27] }, type := 27, pos := "ref.go:68", after := #[{ on := 0, ground := Go.Ground.data }, { on := 2, ground := Go.Ground.data }], guard := none }) rfl (fun K hK => ?_) ?_
                  · go_simp
                    refine hK _ _ (hSB _ (bA _)) ?_
                    clear hK K
                    try simp only [Act.put, List.setIfInBounds_toArray, List.set_cons_zero, List.set_cons_succ]
                    refine anyL_ready (rs := [9]) (by kernel_rfl) (by simp) ?_
                    refine AllL.cons (o := { dst := some 149, op := Go.Op.buildSlice 27 1 #[(0, Go.Operand.tmp 148)], type := 27, pos := "ref.go:68", after := #[{ on := 8, ground := Go.Ground.data }], guard := none }) rfl (fun K hK => ?_) ?_
                    · go_simp
                      refine hK _ _ (hSB _ (bAA _ _)) ?_
                      clear hK K
                      try simp only [Act.put, List.setIfInBounds_toArray, List.set_cons_zero, List.set_cons_succ]
                      refine anyL_ready (rs := [10]) (by kernel_rfl) (by simp) ?_
                      refine AllL.cons (o := { dst := some 150, op := Go.Op.call { callee := Go.Callee.builtin Go.Builtin.append, args := #[Go.Operand.tmp 143, Go.Operand.tmp 149], argTypes := #[27, 27] }, type := 27, pos := "ref.go:68", after := #[{ on := 3, ground := Go.Ground.data }, { on := 9, ground := Go.Ground.data }, { on := 3, ground := Go.Ground.chain }], guard := none }) rfl (fun K hK => ?_) ?_
                      · refine step_one rfl (.tmp 143) (.tmp 149) rfl wq.heap.size (wq.heap.size + 1) 0 [] (.slice (some ⟨wq.heap.size, 0, none⟩) 0 0) (.int .i64 1) (.string ⟨#[]⟩) (.string ⟨#[]⟩) (.slice none 0 0) (.slice none 0 0) (.string (ofBytes u.tx)) (.int .i64 u.at') rfl rfl hE1K blkB hk1 (by decide) ((bAA _ _)).size ?_
                        intro g5 cap5 w5 own5 grow5
                        try go_simp
                        have b5 := gb (bAA _ _) grow5 ((bAA _ _)).size (Nat.le_refl _)
                        refine hK _ _ (hSB _ b5) ?_
                        clear hK K
                        try simp only [Act.put, List.setIfInBounds_toArray, List.set_cons_zero, List.set_cons_succ]
                        refine anyL_takeD (i := 11) (oi := { dst := some 151, op := Go.Op.fieldAddr 29 (Go.Operand.tmp 8) 4, type := 0, pos := "ref.go:68", after := #[{ on := 0, ground := Go.Ground.phase }, { on := 1, ground := Go.Ground.phase }, { on := 2, ground := Go.Ground.phase }, { on := 3, ground := Go.Ground.phase }, { on := 4, ground := Go.Ground.phase }, { on := 5, ground := Go.Ground.phase }, { on := 6, ground := Go.Ground.phase }, { on := 7, ground := Go.Ground.phase }, { on := 8, ground := Go.Ground.phase }, { on := 9, ground := Go.Ground.phase }, { on := 10, ground := Go.Ground.phase }], guard := none }) (v := ?_) rfl (by decide) (by kernel_rfl) (by kernel_rfl) (by kernel_rfl) (fun _ _ _ h => h) (Or.inl ⟨by rfl, ?_⟩) ?_
                        rotate_left
                        · intro wz _
                          go_simp
                          (try with_reducible rfl)
                        try simp only [Act.put, List.setIfInBounds_toArray, List.set_cons_zero, List.set_cons_succ]
                        refine anyL_ready (rs := [12]) (by kernel_rfl) (by simp) ?_
                        refine AllL.last (o := { dst := none, op := Go.Op.store 27 (Go.Operand.tmp 151) (Go.Operand.tmp 150), type := 0, pos := "ref.go:68", after := #[{ on := 11, ground := Go.Ground.data }, { on := 10, ground := Go.Ground.data }, { on := 10, ground := Go.Ground.chain }, { on := 0, ground := Go.Ground.phase }, { on := 1, ground := Go.Ground.phase }, { on := 2, ground := Go.Ground.phase }, { on := 3, ground := Go.Ground.phase }, { on := 4, ground := Go.Ground.phase }, { on := 5, ground := Go.Ground.phase }, { on := 6, ground := Go.Ground.phase }, { on := 7, ground := Go.Ground.phase }, { on := 8, ground := Go.Ground.phase }, { on := 9, ground := Go.Ground.phase }, { on := 10, ground := Go.Ground.phase }], guard := none }) rfl (by decide) (fun K hK => ?_)
                        have s5 := (hNod.more b5).cell 4
                        have f5 := (hNod.more b5).fr 4
                        simp only [List.getElem?_toArray, List.getElem?_cons_succ, List.getElem?_cons_zero] at s5
                        go_simp
                        refine hK _ _ ?_
                        clear hK K s5 f5
                        try simp only [Act.put, List.setIfInBounds_toArray, List.set_cons_zero, List.set_cons_succ]
                        refine anyL_done (by kernel_rfl) ?_ _
                        have HPU := Lib.hid (HLQ.out.push b5 (fun L _ => char_is _ u) own5)
                        have HNP := Lib.hid HPU.out.par.cells.2.1
                        go_wp2
                        go_roundw
                        case rel => exact ⟨j + 1, G, ([] : List NodeD) ++ [charN u], _, _, hlt, by omega, by omega, HRN.out, by rw [List.length_append, List.length_singleton]; omega, HKV.out, fun e => absurd e (by simp), HPU.out⟩
                        case measure => rw [M1.out, HNP.out]; simp [intOf]; omega
                      exact AllL.nil
                    exact AllL.nil
                  refine AllL.cons (o := { dst := some 149, op := Go.Op.buildSlice 27 1 #[(0, Go.Operand.tmp 148)], type := 27, pos := "ref.go:68", after := #[{ on := 8, ground := Go.Ground.data }], guard := none }) rfl (fun K hK => ?_) ?_
                  · go_simp
                    refine hK _ _ (hSB _ (bAA _ _)) ?_
                    clear hK K
                    try simp only [Act.put, List.setIfInBounds_toArray, List.set_cons_zero, List.set_cons_succ]
                    refine anyL_ready (rs := [3]) (by kernel_rfl) (by simp) ?_
                    refine AllL.cons (o := { dst := some 143, op := Go.Op.call { callee := Go.Callee.builtin Go.Builtin.append, args := #[Go.Operand.tmp 140, Go.Operand.tmp 142], argTypes := #[27, 27] }, type := 27, pos := "ref.go:68", after := #[{ on := 0, ground := Go.Ground.data }, { on := 2, ground := Go.Ground.data }], guard := none }) rfl (fun K hK => ?_) ?_
                    · go_simp
                      refine hK _ _ (hSB _ (bAA _ _)) ?_
                      clear hK K
                      try simp only [Act.put, List.setIfInBounds_toArray, List.set_cons_zero, List.set_cons_succ]
                      refine anyL_ready (rs := [10]) (by kernel_rfl) (by simp) ?_
                      refine AllL.cons (o := { dst := some 150, op := Go.Op.call { callee := Go.Callee.builtin Go.Builtin.append, args := #[Go.Operand.tmp 143, Go.Operand.tmp 149], argTypes := #[27, 27] }, type := 27, pos := "ref.go:68", after := #[{ on := 3, ground := Go.Ground.data }, { on := 9, ground := Go.Ground.data }, { on := 3, ground := Go.Ground.chain }], guard := none }) rfl (fun K hK => ?_) ?_
                      · refine step_one rfl (.tmp 143) (.tmp 149) rfl wq.heap.size (wq.heap.size + 1) 0 [] (.slice (some ⟨wq.heap.size, 0, none⟩) 0 0) (.int .i64 1) (.string ⟨#[]⟩) (.string ⟨#[]⟩) (.slice none 0 0) (.slice none 0 0) (.string (ofBytes u.tx)) (.int .i64 u.at') rfl rfl hE1K blkB hk1 (by decide) ((bAA _ _)).size ?_
                        intro g5 cap5 w5 own5 grow5
                        try go_simp
                        have b5 := gb (bAA _ _) grow5 ((bAA _ _)).size (Nat.le_refl _)
                        refine hK _ _ (hSB _ b5) ?_
                        clear hK K
                        try simp only [Act.put, List.setIfInBounds_toArray, List.set_cons_zero, List.set_cons_succ]
                        refine anyL_takeD (i := 11) (oi := { dst := some 151, op := Go.Op.fieldAddr 29 (Go.Operand.tmp 8) 4, type := 0, pos := "ref.go:68", after := #[{ on := 0, ground := Go.Ground.phase }, { on := 1, ground := Go.Ground.phase }, { on := 2, ground := Go.Ground.phase }, { on := 3, ground := Go.Ground.phase }, { on := 4, ground := Go.Ground.phase }, { on := 5, ground := Go.Ground.phase }, { on := 6, ground := Go.Ground.phase }, { on := 7, ground := Go.Ground.phase }, { on := 8, ground := Go.Ground.phase }, { on := 9, ground := Go.Ground.phase }, { on := 10, ground := Go.Ground.phase }], guard := none }) (v := ?_) rfl (by decide) (by kernel_rfl) (by kernel_rfl) (by kernel_rfl) (fun _ _ _ h => h) (Or.inl ⟨by rfl, ?_⟩) ?_
                        rotate_left
                        · intro wz _
                          go_simp
                          (try with_reducible rfl)
                        try simp only [Act.put, List.setIfInBounds_toArray, List.set_cons_zero, List.set_cons_succ]
                        refine anyL_ready (rs := [12]) (by kernel_rfl) (by simp) ?_
                        refine AllL.last (o := { dst := none, op := Go.Op.store 27 (Go.Operand.tmp 151) (Go.Operand.tmp 150), type := 0, pos := "ref.go:68", after := #[{ on := 11, ground := Go.Ground.data }, { on := 10, ground := Go.Ground.data }, { on := 10, ground := Go.Ground.chain }, { on := 0, ground := Go.Ground.phase }, { on := 1, ground := Go.Ground.phase }, { on := 2, ground := Go.Ground.phase }, { on := 3, ground := Go.Ground.phase }, { on := 4, ground := Go.Ground.phase }, { on := 5, ground := Go.Ground.phase }, { on := 6, ground := Go.Ground.phase }, { on := 7, ground := Go.Ground.phase }, { on := 8, ground := Go.Ground.phase }, { on := 9, ground := Go.Ground.phase }, { on := 10, ground := Go.Ground.phase }], guard := none }) rfl (by decide) (fun K hK => ?_)
                        have s5 := (hNod.more b5).cell 4
                        have f5 := (hNod.more b5).fr 4
                        simp only [List.getElem?_toArray, List.getElem?_cons_succ, List.getElem?_cons_zero] at s5
                        go_simp
                        refine hK _ _ ?_
                        clear hK K s5 f5
                        try simp only [Act.put, List.setIfInBounds_toArray, List.set_cons_zero, List.set_cons_succ]
                        refine anyL_done (by kernel_rfl) ?_ _
                        have HPU := Lib.hid (HLQ.out.push b5 (fun L _ => char_is _ u) own5)
                        have HNP := Lib.hid HPU.out.par.cells.2.1
                        go_wp2
                        go_roundw
                        case rel => exact ⟨j + 1, G, ([] : List NodeD) ++ [charN u], _, _, hlt, by omega, by omega, HRN.out, by rw [List.length_append, List.length_singleton]; omega, HKV.out, fun e => absurd e (by simp), HPU.out⟩
                        case measure => rw [M1.out, HNP.out]; simp [intOf]; omega
                      exact AllL.nil
                    exact AllL.nil
                  exact AllL.nil
                refine AllL.cons (o := { dst := some 149, op := Go.Op.buildSlice 27 1 #[(0, Go.Operand.tmp 148)], type := 27, pos := "ref.go:68", after := #[{ on := 8, ground := Go.Ground.data }], guard := none }) rfl (fun K hK => ?_) ?_
                · go_simp
                  refine hK _ _ (hSB _ (bA _)) ?_
                  clear hK K
                  try simp only [Act.put, List.setIfInBounds_toArray, List.set_cons_zero, List.set_cons_succ]
                  refine anyL_ready (rs := [0]) (by kernel_rfl) (by simp) ?_
                  refine AllL.cons (o := { dst := some 140, op := Go.Op.buildSlice 27 0 #[], type := 27, pos := "ref.go:68", after := #[], guard := none }) rfl (fun K hK => ?_) ?_
                  · go_simp
                    refine hK _ _ (hSB _ (bAA _ _)) ?_
                    clear hK K
                    try simp only [Act.put, List.setIfInBounds_toArray, List.set_cons_zero, List.set_cons_succ]
                    refine anyL_ready (rs := [3]) (by kernel_rfl) (by simp) ?_
                    refine AllL.cons (o := { dst := some 143, op := Go.Op.call { callee := Go.Callee.builtin Go.Builtin.append, args := #[Go.Operand.tmp 140, Go.Operand.tmp 142], argTypes := #[27, 27] }, type := 27, pos := "ref.go:68", after := #[{ on := 0, ground := Go.Ground.data }, { on := 2, ground := Go.Ground.data }], guard := none }) rfl (fun K hK => ?_) ?_
                    · go_simp
                      refine hK _ _ (hSB _ (bAA _ _)) ?_
                      clear hK K
                      try simp only [Act.put, List.setIfInBounds_toArray, List.set_cons_zero, List.set_cons_succ]
                      refine anyL_ready (rs := [10]) (by kernel_rfl) (by simp) ?_
                      refine AllL.cons (o := { dst := some 150, op := Go.Op.call { callee := Go.Callee.builtin Go.Builtin.append, args := #[Go.Operand.tmp 143, Go.Operand.tmp 149], argTypes := #[27, 27] }, type := 27, pos := "ref.go:68", after := #[{ on := 3, ground := Go.Ground.data }, { on := 9, ground := Go.Ground.data }, { on := 3, ground := Go.Ground.chain }], guard := none }) rfl (fun K hK => ?_) ?_
                      · refine step_one rfl (.tmp 143) (.tmp 149) rfl wq.heap.size wq.heap.size 0 [] (.slice (some ⟨(wq.heap.size + 1), 0, none⟩) 0 0) (.int .i64 1) (.string ⟨#[]⟩) (.string ⟨#[]⟩) (.slice none 0 0) (.slice none 0 0) (.string (ofBytes u.tx)) (.int .i64 u.at') rfl rfl hE2 blkC hk1 (by decide) ((bAA _ _)).size ?_
                        intro g5 cap5 w5 own5 grow5
                        try go_simp
                        have b5 := gb (bAA _ _) grow5 ((bAA _ _)).size (Nat.le_succ _)
                        refine hK _ _ (hSB _ b5) ?_
                        clear hK K
                        try simp only [Act.put, List.setIfInBounds_toArray, List.set_cons_zero, List.set_cons_succ]
                        refine anyL_takeD (i := 11) (oi := { dst := some 151, op := Go.Op.fieldAddr 29 (Go.Operand.tmp 8) 4, type := 0, pos := "ref.go:68", after := #[{ on := 0, ground := Go.Ground.phase }, { on := 1, ground := Go.Ground.phase }, { on := 2, ground := Go.Ground.phase }, { on := 3, ground := Go.Ground.phase }, { on := 4, ground := Go.Ground.phase }, { on := 5, ground := Go.Ground.phase }, { on := 6, ground := Go.Ground.phase }, { on := 7, ground := Go.Ground.phase }, { on := 8, ground := Go.Ground.phase }, { on := 9, ground := Go.Ground.phase }, { on := 10, ground := Go.Ground.phase }], guard := none }) (v := ?_) rfl (by decide) (by kernel_rfl) (by kernel_rfl) (by kernel_rfl) (fun _ _ _ h => h) (Or.inl ⟨by rfl, ?_⟩) ?_
                        rotate_left
                        · intro wz _
                          go_simp
                          (try with_reducible rfl)
                        try simp only [Act.put, List.setIfInBounds_toArray, List.set_cons_zero, List.set_cons_succ]
                        refine anyL_ready (rs := [12]) (by kernel_rfl) (by simp) ?_
                        refine AllL.last (o := { dst := none, op := Go.Op.store 27 (Go.Operand.tmp 151) (Go.Operand.tmp 150), type := 0, pos := "ref.go:68", after := #[{ on := 11, ground := Go.Ground.data }, { on := 10, ground := Go.Ground.data }, { on := 10, ground := Go.Ground.chain }, { on := 0, ground := Go.Ground.phase }, { on := 1, ground := Go.Ground.phase }, { on := 2, ground := Go.Ground.phase }, { on := 3, ground := Go.Ground.phase }, { on := 4, ground := Go.Ground.phase }, { on := 5, ground := Go.Ground.phase }, { on := 6, ground := Go.Ground.phase }, { on := 7, ground := Go.Ground.phase }, { on := 8, ground := Go.Ground.phase }, { on := 9, ground := Go.Ground.phase }, { on := 10, ground := Go.Ground.phase }], guard := none }) rfl (by decide) (fun K hK => ?_)
                        have s5 := (hNod.more b5).cell 4
                        have f5 := (hNod.more b5).fr 4
                        simp only [List.getElem?_toArray, List.getElem?_cons_succ, List.getElem?_cons_zero] at s5
                        go_simp
                        refine hK _ _ ?_
                        clear hK K s5 f5
                        try simp only [Act.put, List.setIfInBounds_toArray, List.set_cons_zero, List.set_cons_succ]
                        refine anyL_done (by kernel_rfl) ?_ _
                        have HPU := Lib.hid (HLQ.out.push b5 (fun L _ => char_is _ u) own5)
                        have HNP := Lib.hid HPU.out.par.cells.2.1
                        go_wp2
                        go_roundw
                        case rel => exact ⟨j + 1, G, ([] : List NodeD) ++ [charN u], _, _, hlt, by omega, by omega, HRN.out, by rw [List.length_append, List.length_singleton]; omega, HKV.out, fun e => absurd e (by simp), HPU.out⟩
                        case measure => rw [M1.out, HNP.out]; simp [intOf]; omega
                      exact AllL.nil
                    exact AllL.nil
                  exact AllL.nil
                exact AllL.nil
              · rw [List.concat_eq_append] at hks
                have hkl : kids.length = ks.length + 1 := by rw [hks, List.length_append, List.length_singleton]
                obtain ⟨g, cap, ys, v1, v2, v3, v4, v6, hv, hg, hx, hy, d0, d5, f5⟩ := (hks ▸ HLQ.out : ElR w p (some ad) l.length ct l w.heap.size t qa ca a0 (j + 1) (ks ++ [k]) (.slice Ak kids.length Ck) xs wq).last HLO0.out
                injection hv with hv1 hv2 hv3
                subst hv1
                replace hv3 := hv3.symm
                subst hv3
                rw [hkl] at n4
                have hks6 : (ks.length : Int) ≤ 1000000 := by omega
                have hks0 : (0 : Int) ≤ (ks.length : Int) := by omega
                have hksl : (ks.length : Int) < (ks.length : Int) + 1 := by omega
                have hksn : (ks.length : Int) < ((ks.length + 1 : Nat) : Int) := by omega
                have hw2 : IntKind.i64.wrap (((ks.length + 1 : Nat) : Int) - 1) = (ks.length : Int) := by rw [show ((ks.length + 1 : Nat) : Int) - 1 = (ks.length : Int) by omega]; exact wrap_small _ (by omega) (by omega)
                have hw3 : IntKind.i64.wrap ((ks.length : Int) + 1 - 1) = (ks.length : Int) := by rw [show (ks.length : Int) + 1 - 1 = (ks.length : Int) by omega]; exact wrap_small _ (by omega) (by omega)
                have HVV := Lib.hid (And.intro hx hy)
                clear hx hy
                by_cases hkk : k.kind = 1
                · rw [hkk] at d0
                  have HRN := Lib.hid (HRM.out.trans (by rw [hks, addChar_more ks k u hkk] : _ = kidsP l z G d t (j + 1) (ks ++ [moreN u k])))
                  have HMO := Lib.hid ((hks ▸ HLQ.out : ElR w p (some ad) l.length ct l w.heap.size t qa ca a0 (j + 1) (ks ++ [k]) (.slice (some ⟨g, 0, none⟩) kids.length cap) xs wq).more u (by rw [hkl]) hg HVV.out.1 HVV.out.2)
                  have hts := HKT.out k (by rw [hks]; simp)
                  have hsum : ¬ 9223372036854775807 < k.tx.size + (ofBytes u.tx).size := by rw [ofBytes_size]; omega
                  have HKW := Lib.hid (show ∀ y ∈ ks ++ [moreN u k], y.tx.size ≤ (j + 1) * 100050004 from fun y hy => by
                    have hm : (j + 1) * 100050004 = j * 100050004 + 100050004 := Nat.succ_mul _ _
                    rcases List.mem_append.1 hy with hy | hy
                    · have := HKT.out y (by rw [hks]; exact List.mem_append_left _ hy)
                      exact Nat.le_trans this (by rw [hm]; exact Nat.le_add_right _ _)
                    · rw [List.mem_singleton.1 hy, moreN_tx, hm]
                      exact Nat.add_le_add hts hut)
                  have hkj2 : (ks ++ [moreN u k]).length ≤ j + 1 := by rw [List.length_append, List.length_singleton]; omega
                  rw [show k.kind = 1 from hkk] at HMO
                  generalize k.tx = ktx at d5 HMO hsum
                  have HNE := Lib.hid (fun e => absurd e (by simp) : ks ++ [moreN u k] = [] → (Value.slice (some ⟨g, 0, none⟩) kids.length cap) = .slice none 0 0)
                  clear HRM HKT HKV hkk hts hks HVV HLQ HNU
                  go_wp2
                  refine wp_region_late (S := fun w' => (w'.cell? ⟨w.heap.size + 2, 4, none⟩ = some (.slice (some ⟨g, 0, none⟩) (ks.length + 1) cap) ∧ w'.cell? ⟨g, ks.length * 7 + 5, none⟩ = some (.string ktx) ∧ w'.cell? ⟨U, 4, none⟩ = some (.string (ofBytes u.tx)))) (D := [9, 10, 11]) (by kernel_rfl) ?_
                  refine anyL_take (i := 0) (oi := { dst := some 129, op := Go.Op.fieldAddr 29 (Go.Operand.tmp 8) 4, type := 0, pos := "ref.go:66", after := #[], guard := none }) (v := ?_) rfl (by decide) (by kernel_rfl) (by kernel_rfl) (by kernel_rfl) (by kernel_rfl) (fun _ _ _ h => h) (Or.inl ⟨by rfl, ?_⟩) ⟨n4, d5, u4⟩ ?_
                  rotate_left
                  · intro wz hSz
                    obtain ⟨z0, z1, z2⟩ := hSz
                    go_simp
                    (try with_reducible rfl)
                  try simp only [Act.put, List.setIfInBounds_toArray, List.set_cons_zero, List.set_cons_succ]
                  refine anyL_take (i := 1) (oi := { dst := some 130, op := Go.Op.load 27 (Go.Operand.tmp 129), type := 27, pos := "ref.go:66", after := #[{ on := 0, ground := Go.Ground.data }], guard := none }) (v := ?_) rfl (by decide) (by kernel_rfl) (by kernel_rfl) (by kernel_rfl) (by kernel_rfl) (fun _ _ _ h => h) (Or.inl ⟨by rfl, ?_⟩) ⟨n4, d5, u4⟩ ?_
                  rotate_left
                  · intro wz hSz
                    obtain ⟨z0, z1, z2⟩ := hSz
                    go_simp
                    (try with_reducible rfl)
                  try simp only [Act.put, List.setIfInBounds_toArray, List.set_cons_zero, List.set_cons_succ]
                  refine anyL_take (i := 2) (oi := { dst := some 131, op := Go.Op.move (Go.Operand.tmp 11), type := 3, pos := "ref.go:66", after := #[], guard := none }) (v := ?_) rfl (by decide) (by kernel_rfl) (by kernel_rfl) (by kernel_rfl) (by kernel_rfl) (fun _ _ _ h => h) (Or.inl ⟨by rfl, ?_⟩) ⟨n4, d5, u4⟩ ?_
                  rotate_left
                  · intro wz hSz
                    obtain ⟨z0, z1, z2⟩ := hSz
                    go_simp
                    (try with_reducible rfl)
                  try simp only [Act.put, List.setIfInBounds_toArray, List.set_cons_zero, List.set_cons_succ]
                  refine anyL_take (i := 3) (oi := { dst := some 132, op := Go.Op.indexAddr 27 (Go.Operand.tmp 130) (Go.Operand.tmp 131), type := 0, pos := "ref.go:66", after := #[{ on := 1, ground := Go.Ground.data }, { on := 2, ground := Go.Ground.data }], guard := none }) (v := ?_) rfl (by decide) (by kernel_rfl) (by kernel_rfl) (by kernel_rfl) (by kernel_rfl) (fun _ _ _ h => h) (Or.inl ⟨by rfl, ?_⟩) ⟨n4, d5, u4⟩ ?_
                  rotate_left
                  · intro wz hSz
                    obtain ⟨z0, z1, z2⟩ := hSz
                    go_simp
                    (try with_reducible rfl)
                  try simp only [Act.put, List.setIfInBounds_toArray, List.set_cons_zero, List.set_cons_succ]
                  refine anyL_take (i := 4) (oi := { dst := some 133, op := Go.Op.fieldAddr 29 (Go.Operand.tmp 132) 5, type := 0, pos := "ref.go:66", after := #[{ on := 3, ground := Go.Ground.data }], guard := none }) (v := ?_) rfl (by decide) (by kernel_rfl) (by kernel_rfl) (by kernel_rfl) (by kernel_rfl) (fun _ _ _ h => h) (Or.inl ⟨by rfl, ?_⟩) ⟨n4, d5, u4⟩ ?_
                  rotate_left
                  · intro wz hSz
                    obtain ⟨z0, z1, z2⟩ := hSz
                    go_simp
                    (try with_reducible rfl)
                  try simp only [Act.put, List.setIfInBounds_toArray, List.set_cons_zero, List.set_cons_succ]
                  refine anyL_take (i := 5) (oi := { dst := some 134, op := Go.Op.load 9 (Go.Operand.tmp 133), type := 9, pos := "ref.go:66", after := #[{ on := 4, ground := Go.Ground.data }], guard := none }) (v := ?_) rfl (by decide) (by kernel_rfl) (by kernel_rfl) (by kernel_rfl) (by kernel_rfl) (fun _ _ _ h => h) (Or.inl ⟨by rfl, ?_⟩) ⟨n4, d5, u4⟩ ?_
                  rotate_left
                  · intro wz hSz
                    obtain ⟨z0, z1, z2⟩ := hSz
                    go_simp
                    (try with_reducible rfl)
                  try simp only [Act.put, List.setIfInBounds_toArray, List.set_cons_zero, List.set_cons_succ]
                  refine anyL_take (i := 6) (oi := { dst := some 135, op := Go.Op.fieldAddr 91 (Go.Operand.tmp 9) 4, type := 0, pos := "ref.go:66", after := #[], guard := none }) (v := ?_) rfl (by decide) (by kernel_rfl) (by kernel_rfl) (by kernel_rfl) (by kernel_rfl) (fun _ _ _ h => h) (Or.inl ⟨by rfl, ?_⟩) ⟨n4, d5, u4⟩ ?_
                  rotate_left
                  · intro wz hSz
                    obtain ⟨z0, z1, z2⟩ := hSz
                    go_simp
                    (try with_reducible rfl)
                  try simp only [Act.put, List.setIfInBounds_toArray, List.set_cons_zero, List.set_cons_succ]
                  refine anyL_take (i := 7) (oi := { dst := some 136, op := Go.Op.load 9 (Go.Operand.tmp 135), type := 9, pos := "ref.go:66", after := #[{ on := 6, ground := Go.Ground.data }], guard := none }) (v := ?_) rfl (by decide) (by kernel_rfl) (by kernel_rfl) (by kernel_rfl) (by kernel_rfl) (fun _ _ _ h => h) (Or.inl ⟨by rfl, ?_⟩) ⟨n4, d5, u4⟩ ?_
                  rotate_left
                  · intro wz hSz
                    obtain ⟨z0, z1, z2⟩ := hSz
                    go_simp
                    (try with_reducible rfl)
                  try simp only [Act.put, List.setIfInBounds_toArray, List.set_cons_zero, List.set_cons_succ]
                  refine anyL_take (i := 8) (oi := { dst := some 137, op := Go.Op.binOp Go.BinOp.add 9 (Go.Operand.tmp 134) (Go.Operand.tmp 136) 9, type := 9, pos := "ref.go:66", after := #[{ on := 5, ground := Go.Ground.data }, { on := 7, ground := Go.Ground.data }], guard := none }) (v := ?_) rfl (by decide) (by kernel_rfl) (by kernel_rfl) (by kernel_rfl) (by kernel_rfl) (fun _ _ _ h => h) (Or.inl ⟨by rfl, ?_⟩) ⟨n4, d5, u4⟩ ?_
                  rotate_left
                  · intro wz hSz
                    obtain ⟨z0, z1, z2⟩ := hSz
                    go_simp
                    (try with_reducible rfl)
                  try simp only [Act.put, List.setIfInBounds_toArray, List.set_cons_zero, List.set_cons_succ]
                  refine anyL_takeD (i := 9) (oi := { dst := some 138, op := Go.Op.indexAddr 27 (Go.Operand.tmp 130) (Go.Operand.tmp 131), type := 0, pos := "ref.go:66", after := #[{ on := 1, ground := Go.Ground.data }, { on := 2, ground := Go.Ground.data }, { on := 0, ground := Go.Ground.phase }, { on := 1, ground := Go.Ground.phase }, { on := 2, ground := Go.Ground.phase }, { on := 3, ground := Go.Ground.phase }, { on := 4, ground := Go.Ground.phase }, { on := 5, ground := Go.Ground.phase }, { on := 6, ground := Go.Ground.phase }, { on := 7, ground := Go.Ground.phase }, { on := 8, ground := Go.Ground.phase }], guard := none }) (v := ?_) rfl (by decide) (by kernel_rfl) (by kernel_rfl) (by kernel_rfl) (fun _ _ _ h => h) (Or.inl ⟨by rfl, ?_⟩) ?_
                  rotate_left
                  · intro wz _
                    go_simp
                    (try with_reducible rfl)
                  try simp only [Act.put, List.setIfInBounds_toArray, List.set_cons_zero, List.set_cons_succ]
                  refine anyL_takeD (i := 10) (oi := { dst := some 139, op := Go.Op.fieldAddr 29 (Go.Operand.tmp 138) 5, type := 0, pos := "ref.go:66", after := #[{ on := 9, ground := Go.Ground.data }, { on := 0, ground := Go.Ground.phase }, { on := 1, ground := Go.Ground.phase }, { on := 2, ground := Go.Ground.phase }, { on := 3, ground := Go.Ground.phase }, { on := 4, ground := Go.Ground.phase }, { on := 5, ground := Go.Ground.phase }, { on := 6, ground := Go.Ground.phase }, { on := 7, ground := Go.Ground.phase }, { on := 8, ground := Go.Ground.phase }], guard := none }) (v := ?_) rfl (by decide) (by kernel_rfl) (by kernel_rfl) (by kernel_rfl) (fun _ _ _ h => h) (Or.inl ⟨by rfl, ?_⟩) ?_
                  rotate_left
                  · intro wz _
                    go_simp
                    (try with_reducible rfl)
                  try simp only [Act.put, List.setIfInBounds_toArray, List.set_cons_zero, List.set_cons_succ]
                  refine anyL_ready (rs := [11]) (by kernel_rfl) (by simp) ?_
                  refine AllL.last (o := { dst := none, op := Go.Op.store 9 (Go.Operand.tmp 139) (Go.Operand.tmp 137), type := 0, pos := "ref.go:66", after := #[{ on := 10, ground := Go.Ground.data }, { on := 8, ground := Go.Ground.data }, { on := 0, ground := Go.Ground.phase }, { on := 1, ground := Go.Ground.phase }, { on := 2, ground := Go.Ground.phase }, { on := 3, ground := Go.Ground.phase }, { on := 4, ground := Go.Ground.phase }, { on := 5, ground := Go.Ground.phase }, { on := 6, ground := Go.Ground.phase }, { on := 7, ground := Go.Ground.phase }, { on := 8, ground := Go.Ground.phase }], guard := none }) rfl (by decide) (fun K hK => ?_)
                  go_simp
                  refine hK _ _ ?_
                  clear hK K
                  try simp only [Act.put, List.setIfInBounds_toArray, List.set_cons_zero, List.set_cons_succ]
                  refine anyL_done (by kernel_rfl) ?_ _
                  have HPU := Lib.hid (HMO.out.below (Below.refl _ _).drew)
                  have HNP := Lib.hid HPU.out.par.cells.2.1
                  go_wp2
                  go_roundw
                  case rel => exact ⟨j + 1, G, ks ++ [moreN u k], _, _, hlt, by omega, by omega, HRN.out, hkj2, HKW.out, HNE.out, HPU.out⟩
                  case measure => rw [M1.out, HNP.out]; simp [intOf]; omega
                · have hkb : (k.kind == 1) = false := by simpa using hkk
                  have HRN := Lib.hid (HRM.out.trans (by rw [hks, addChar_new ks k u hkk, ← hks] : _ = kidsP l z G d t (j + 1) (kids ++ [charN u])))
                  have own0 := HLQ.out.row
                  obtain ⟨n, hn⟩ : ∃ n, n = kids.length := ⟨_, rfl⟩
                  have hn0 : 0 < n := by omega
                  have hn9 : n ≤ 1000000000 := by omega
                  have hxl : xs.length = n * 7 := by rw [hn]; exact own0.1
                  have hx1 : ∀ y ∈ xs, y.oneCell' = true := KRow.one _ _ (HLQ.out.kids _ HLO0.out)
                  have hSB : ∀ w', Below wq.heap.size wq w' → NU (w.heap.size + 2) U (.slice (some ⟨g, 0, none⟩) kids.length cap) (.string (ofBytes u.tx)) (.int .i64 u.at') w' := fun w' hb => HNU.out.below hb hNz hUz5
                  rw [← hn] at own0 hSB hNod
                  have HNN := Lib.hid hn
                  clear HRM hkk hks HVV hn
                  go_wp2
                  clear n4 u4 u5 d0 d5 f5 hw2 hw3 hkb hksl hksn
                  have bR : Below wq.heap.size wq wq := Below.refl _ _
                  have bA : ∀ o, Below wq.heap.size wq (wq.alloc o).drew := fun o => (bR.alloc bR.size o).drew
                  have bAA : ∀ o o', Below wq.heap.size wq ((wq.alloc o).alloc o').drew := fun o o' => ((bR.alloc bR.size o).alloc (bR.alloc bR.size o).size o').drew
                  have hS0 := hSB _ bR.drew
                  have hE1 := (made_own wq wq.heap.size (Nat.le_refl _)).drew
                  have hE1K := ((made_own wq wq.heap.size (Nat.le_refl _)).alloc (.cells #[.int .i64 1, .string ⟨#[]⟩, .string ⟨#[]⟩, .slice none 0 0, .slice none 0 0, .string (ofBytes u.tx), .int .i64 u.at'] 29)).drew
                  have hE2 : ((wq.alloc (.cells #[.int .i64 1, .string ⟨#[]⟩, .string ⟨#[]⟩, .slice none 0 0, .slice none 0 0, .string (ofBytes u.tx), .int .i64 u.at'] 29)).alloc (.cells #[] 29)).drew.ownsRow wq.heap.size 29 7 (.slice (some ⟨wq.heap.size + 1, 0, none⟩) 0 0) 0 [] := by
                    have := (made_own (wq.alloc (.cells #[.int .i64 1, .string ⟨#[]⟩, .string ⟨#[]⟩, .slice none 0 0, .slice none 0 0, .string (ofBytes u.tx), .int .i64 u.at'] 29)) wq.heap.size (bR.alloc bR.size _).size).drew
                    rwa [show (wq.alloc (.cells #[.int .i64 1, .string ⟨#[]⟩, .string ⟨#[]⟩, .slice none 0 0, .slice none 0 0, .string (ofBytes u.tx), .int .i64 u.at'] 29)).heap.size = wq.heap.size + 1 by simp] at this
                  have blkB : ((wq.alloc (.cells #[] 29)).alloc (.cells #[.int .i64 1, .string ⟨#[]⟩, .string ⟨#[]⟩, .slice none 0 0, .slice none 0 0, .string (ofBytes u.tx), .int .i64 u.at'] 29)).drew.heap[wq.heap.size + 1]? = some (.cells #[.int .i64 1, .string ⟨#[]⟩, .string ⟨#[]⟩, .slice none 0 0, .slice none 0 0, .string (ofBytes u.tx), .int .i64 u.at'] 29 (0, 0)) := by
                    have := heap_alloc_new (wq.alloc (.cells #[] 29)) (.cells #[.int .i64 1, .string ⟨#[]⟩, .string ⟨#[]⟩, .slice none 0 0, .slice none 0 0, .string (ofBytes u.tx), .int .i64 u.at'] 29)
                    rwa [show (wq.alloc (.cells #[] 29)).heap.size = wq.heap.size + 1 by simp] at this
                  have blkC : ((wq.alloc (.cells #[.int .i64 1, .string ⟨#[]⟩, .string ⟨#[]⟩, .slice none 0 0, .slice none 0 0, .string (ofBytes u.tx), .int .i64 u.at'] 29)).alloc (.cells #[] 29)).drew.heap[wq.heap.size]? = some (.cells #[.int .i64 1, .string ⟨#[]⟩, .string ⟨#[]⟩, .slice none 0 0, .slice none 0 0, .string (ofBytes u.tx), .int .i64 u.at'] 29 (0, 0)) := (heap_alloc_old (wq.alloc (.cells #[.int .i64 1, .string ⟨#[]⟩, .string ⟨#[]⟩, .slice none 0 0, .slice none 0 0, .string (ofBytes u.tx), .int .i64 u.at'] 29)) (.cells #[] 29) (by simp)).trans (heap_alloc_new wq (.cells #[.int .i64 1, .string ⟨#[]⟩, .string ⟨#[]⟩, .slice none 0 0, .slice none 0 0, .string (ofBytes u.tx), .int .i64 u.at'] 29))
                  refine wp_region_late (S := fun w' => NU (w.heap.size + 2) U (.slice (some ⟨g, 0, none⟩) n cap) (.string (ofBytes u.tx)) (.int .i64 u.at') w') (D := [11, 12]) (by kernel_rfl) ?_
                  refine anyL_take (i := 1) (oi := { dst := some 141, op := Go.Op.fieldAddr 29 (Go.Operand.tmp 8) 4, type := 0, pos := "ref.go:68", after := #[], guard := none }) (v := ?_) rfl (by decide) (by kernel_rfl) (by kernel_rfl) (by kernel_rfl) (by kernel_rfl) (fun _ _ _ h => h) (Or.inl ⟨by rfl, ?_⟩) hS0 ?_
                  rotate_left
                  · intro wz hSz
                    obtain ⟨z0, z1, z2⟩ := hSz
                    go_simp
                    (try with_reducible rfl)
                  try simp only [Act.put, List.setIfInBounds_toArray, List.set_cons_zero, List.set_cons_succ]
                  refine anyL_take (i := 2) (oi := { dst := some 142, op := Go.Op.load 27 (Go.Operand.tmp 141), type := 27, pos := "ref.go:68", after := #[{ on := 1, ground := Go.Ground.data }], guard := none }) (v := ?_) rfl (by decide) (by kernel_rfl) (by kernel_rfl) (by kernel_rfl) (by kernel_rfl) (fun _ _ _ h => h) (Or.inl ⟨by rfl, ?_⟩) hS0 ?_
                  rotate_left
                  · intro wz hSz
                    obtain ⟨z0, z1, z2⟩ := hSz
                    go_simp
                    (try with_reducible rfl)
                  try simp only [Act.put, List.setIfInBounds_toArray, List.set_cons_zero, List.set_cons_succ]
                  refine anyL_take (i := 4) (oi := { dst := some 144, op := Go.Op.fieldAddr 91 (Go.Operand.tmp 9) 4, type := 0, pos := "ref.go:68", after := #[], guard := none }) (v := ?_) rfl (by decide) (by kernel_rfl) (by kernel_rfl) (by kernel_rfl) (by kernel_rfl) (fun _ _ _ h => h) (Or.inl ⟨by rfl, ?_⟩) hS0 ?_
                  rotate_left
                  · intro wz hSz
                    obtain ⟨z0, z1, z2⟩ := hSz
                    go_simp
                    (try with_reducible rfl)
                  try simp only [Act.put, List.setIfInBounds_toArray, List.set_cons_zero, List.set_cons_succ]
                  refine anyL_take (i := 5) (oi := { dst := some 145, op := Go.Op.load 9 (Go.Operand.tmp 144), type := 9, pos := "ref.go:68", after := #[{ on := 4, ground := Go.Ground.data }], guard := none }) (v := ?_) rfl (by decide) (by kernel_rfl) (by kernel_rfl) (by kernel_rfl) (by kernel_rfl) (fun _ _ _ h => h) (Or.inl ⟨by rfl, ?_⟩) hS0 ?_
                  rotate_left
                  · intro wz hSz
                    obtain ⟨z0, z1, z2⟩ := hSz
                    go_simp
                    (try with_reducible rfl)
                  try simp only [Act.put, List.setIfInBounds_toArray, List.set_cons_zero, List.set_cons_succ]
                  refine anyL_take (i := 6) (oi := { dst := some 146, op := Go.Op.fieldAddr 91 (Go.Operand.tmp 9) 5, type := 0, pos := "ref.go:68", after := #[], guard := none }) (v := ?_) rfl (by decide) (by kernel_rfl) (by kernel_rfl) (by kernel_rfl) (by kernel_rfl) (fun _ _ _ h => h) (Or.inl ⟨by rfl, ?_⟩) hS0 ?_
                  rotate_left
                  · intro wz hSz
                    obtain ⟨z0, z1, z2⟩ := hSz
                    go_simp
                    (try with_reducible rfl)
                  try simp only [Act.put, List.setIfInBounds_toArray, List.set_cons_zero, List.set_cons_succ]
                  refine anyL_take (i := 7) (oi := { dst := some 147, op := Go.Op.load 3 (Go.Operand.tmp 146), type := 3, pos := "ref.go:68", after := #[{ on := 6, ground := Go.Ground.data }], guard := none }) (v := ?_) rfl (by decide) (by kernel_rfl) (by kernel_rfl) (by kernel_rfl) (by kernel_rfl) (fun _ _ _ h => h) (Or.inl ⟨by rfl, ?_⟩) hS0 ?_
                  rotate_left
                  · intro wz hSz
                    obtain ⟨z0, z1, z2⟩ := hSz
                    go_simp
                    (try with_reducible rfl)
                  try simp only [Act.put, List.setIfInBounds_toArray, List.set_cons_zero, List.set_cons_succ]
                  refine anyL_take (i := 8) (oi := { dst := some 148, op := Go.Op.build 29 #[(0, Go.Operand.const (Go.Value.int Go.IntKind.i64 1)), (5, Go.Operand.tmp 145), (6, Go.Operand.tmp 147)], type := 29, pos := "ref.go:68", after := #[{ on := 5, ground := Go.Ground.data }, { on := 7, ground := Go.Ground.data }], guard := none }) (v := ?_) rfl (by decide) (by kernel_rfl) (by kernel_rfl) (by kernel_rfl) (by kernel_rfl) (fun _ _ _ h => h) (Or.inl ⟨by rfl, ?_⟩) hS0 ?_
                  rotate_left
                  · intro wz hSz
                    obtain ⟨z0, z1, z2⟩ := hSz
                    go_simp
                    (try with_reducible rfl)
                  try simp only [Act.put, List.setIfInBounds_toArray, List.set_cons_zero, List.set_cons_succ]
                  refine anyL_ready (rs := [0, 9]) (by kernel_rfl) (by simp) ?_
                  refine AllL.cons (o := { dst := some 140, op := Go.Op.buildSlice 27 0 #[], type := 27, pos := "ref.go:68", after := #[], guard := none }) rfl (fun K hK => ?_) ?_
                  · go_simp
                    refine hK _ _ (hSB _ (bA _)) ?_
                    clear hK K
                    try simp only [Act.put, List.setIfInBounds_toArray, List.set_cons_zero, List.set_cons_succ]
                    refine anyL_ready (rs := [3, 9]) (by kernel_rfl) (by simp) ?_
                    refine AllL.cons (o := { dst := some 143, op := Go.Op.call { callee := Go.Callee.builtin Go.Builtin.append, args := #[Go.Operand.tmp 140, Go.Operand.tmp 142], argTypes := #[27, 27] }, type := 27, pos := "ref.go:68", after := #[{ on := 0, ground := Go.Ground.data }, { on := 2, ground := Go.Ground.data }], guard := none }) rfl (fun K hK => ?_) ?_
                    · refine step_copy rfl (.tmp 140) (.tmp 142) rfl wq.heap.size wq.heap.size g n cap xs rfl rfl hE1 hxl (row_news own0 (bA _)) hx1 hn0 hn9 ((bA _)).size ?_
                      intro g1 cap1 w2 own1 grow1 hg1
                      try go_simp
                      have b2 := gb (bA _) grow1 ((bA _)).size (Nat.le_refl _)
                      refine hK _ _ (hSB _ b2) ?_
                      clear hK K
                      try simp only [Act.put, List.setIfInBounds_toArray, List.set_cons_zero, List.set_cons_succ]
                      refine anyL_ready (rs := [9]) (by kernel_rfl) (by simp) ?_
                      refine AllL.cons (o := { dst := some 149, op := Go.Op.buildSlice 27 1 #[(0, Go.Operand.tmp 148)], type := 27, pos := "ref.go:68", after := #[{ on := 8, ground := Go.Ground.data }], guard := none }) rfl (fun K hK => ?_) ?_
                      · go_simp
                        refine hK _ _ (hSB _ (b2.alloc b2.size _)) ?_
                        clear hK K
                        try simp only [Act.put, List.setIfInBounds_toArray, List.set_cons_zero, List.set_cons_succ]
                        refine anyL_ready (rs := [10]) (by kernel_rfl) (by simp) ?_
                        refine AllL.cons (o := { dst := some 150, op := Go.Op.call { callee := Go.Callee.builtin Go.Builtin.append, args := #[Go.Operand.tmp 143, Go.Operand.tmp 149], argTypes := #[27, 27] }, type := 27, pos := "ref.go:68", after := #[{ on := 3, ground := Go.Ground.data }, { on := 9, ground := Go.Ground.data }, { on := 3, ground := Go.Ground.chain }], guard := none }) rfl (fun K hK => ?_) ?_
                        · refine step_one rfl (.tmp 143) (.tmp 149) rfl wq.heap.size w2.heap.size n xs (.slice (some ⟨g1, 0, none⟩) n cap1) (.int .i64 1) (.string ⟨#[]⟩) (.string ⟨#[]⟩) (.slice none 0 0) (.slice none 0 0) (.string (ofBytes u.tx)) (.int .i64 u.at') rfl rfl (own1.alloc _) (heap_alloc_new w2 _) hk1 hn9 ((b2.alloc b2.size _)).size ?_
                          intro g5 cap5 w5 own5 grow5
                          try go_simp
                          have b5 := gb (b2.alloc b2.size _) grow5 ((b2.alloc b2.size _)).size hg1
                          refine hK _ _ (hSB _ b5) ?_
                          clear hK K
                          try simp only [Act.put, List.setIfInBounds_toArray, List.set_cons_zero, List.set_cons_succ]
                          refine anyL_takeD (i := 11) (oi := { dst := some 151, op := Go.Op.fieldAddr 29 (Go.Operand.tmp 8) 4, type := 0, pos := "ref.go:68", after := #[{ on := 0, ground := Go.Ground.phase }, { on := 1, ground := Go.Ground.phase }, { on := 2, ground := Go.Ground.phase }, { on := 3, ground := Go.Ground.phase }, { on := 4, ground := Go.Ground.phase }, { on := 5, ground := Go.Ground.phase }, { on := 6, ground := Go.Ground.phase }, { on := 7, ground := Go.Ground.phase }, { on := 8, ground := Go.Ground.phase }, { on := 9, ground := Go.Ground.phase }, { on := 10, ground := Go.Ground.phase }], guard := none }) (v := ?_) rfl (by decide) (by kernel_rfl) (by kernel_rfl) (by kernel_rfl) (fun _ _ _ h => h) (Or.inl ⟨by rfl, ?_⟩) ?_
                          rotate_left
                          · intro wz _
                            go_simp
                            (try with_reducible rfl)
                          try simp only [Act.put, List.setIfInBounds_toArray, List.set_cons_zero, List.set_cons_succ]
                          refine anyL_ready (rs := [12]) (by kernel_rfl) (by simp) ?_
                          refine AllL.last (o := { dst := none, op := Go.Op.store 27 (Go.Operand.tmp 151) (Go.Operand.tmp 150), type := 0, pos := "ref.go:68", after := #[{ on := 11, ground := Go.Ground.data }, { on := 10, ground := Go.Ground.data }, { on := 10, ground := Go.Ground.chain }, { on := 0, ground := Go.Ground.phase }, { on := 1, ground := Go.Ground.phase }, { on := 2, ground := Go.Ground.phase }, { on := 3, ground := Go.Ground.phase }, { on := 4, ground := Go.Ground.phase }, { on := 5, ground := Go.Ground.phase }, { on := 6, ground := Go.Ground.phase }, { on := 7, ground := Go.Ground.phase }, { on := 8, ground := Go.Ground.phase }, { on := 9, ground := Go.Ground.phase }, { on := 10, ground := Go.Ground.phase }], guard := none }) rfl (by decide) (fun K hK => ?_)
                          have s5 := (hNod.more b5).cell 4
                          have f5 := (hNod.more b5).fr 4
                          simp only [List.getElem?_toArray, List.getElem?_cons_succ, List.getElem?_cons_zero] at s5
                          go_simp
                          refine hK _ _ ?_
                          clear hK K s5 f5
                          try simp only [Act.put, List.setIfInBounds_toArray, List.set_cons_zero, List.set_cons_succ]
                          refine anyL_done (by kernel_rfl) ?_ _
                          have HPU := Lib.hid (HLQ.out.push b5 (fun L _ => char_is _ u) (by rw [← HNN.out]; exact own5))
                          have HNP := Lib.hid HPU.out.par.cells.2.1
                          go_wp2
                          go_roundw
                          case rel => exact ⟨j + 1, G, kids ++ [charN u], _, _, hlt, by omega, by omega, HRN.out, by rw [List.length_append, List.length_singleton]; omega, HKV.out, fun e => absurd e (by simp), HPU.out⟩
                          case measure => rw [M1.out, HNP.out]; simp [intOf]; omega
                        exact AllL.nil
                      exact AllL.nil
                    refine AllL.cons (o := { dst := some 149, op := Go.Op.buildSlice 27 1 #[(0, Go.Operand.tmp 148)], type := 27, pos := "ref.go:68", after := #[{ on := 8, ground := Go.Ground.data }], guard := none }) rfl (fun K hK => ?_) ?_
                    · go_simp
                      refine hK _ _ (hSB _ (bAA _ _)) ?_
                      clear hK K
                      try simp only [Act.put, List.setIfInBounds_toArray, List.set_cons_zero, List.set_cons_succ]
                      refine anyL_ready (rs := [3]) (by kernel_rfl) (by simp) ?_
                      refine AllL.cons (o := { dst := some 143, op := Go.Op.call { callee := Go.Callee.builtin Go.Builtin.append, args := #[Go.Operand.tmp 140, Go.Operand.tmp 142], argTypes := #[27, 27] }, type := 27, pos := "ref.go:68", after := #[{ on := 0, ground := Go.Ground.data }, { on := 2, ground := Go.Ground.data }], guard := none }) rfl (fun K hK => ?_) ?_
                      · refine step_copy rfl (.tmp 140) (.tmp 142) rfl wq.heap.size wq.heap.size g n cap xs rfl rfl hE1K hxl (row_news own0 (bAA _ _)) hx1 hn0 hn9 ((bAA _ _)).size ?_
                        intro g1 cap1 w2 own1 grow1 hg1
                        try go_simp
                        have b2 := gb (bAA _ _) grow1 ((bAA _ _)).size (Nat.le_refl _)
                        refine hK _ _ (hSB _ b2) ?_
                        clear hK K
                        try simp only [Act.put, List.setIfInBounds_toArray, List.set_cons_zero, List.set_cons_succ]
                        refine anyL_ready (rs := [10]) (by kernel_rfl) (by simp) ?_
                        refine AllL.cons (o := { dst := some 150, op := Go.Op.call { callee := Go.Callee.builtin Go.Builtin.append, args := #[Go.Operand.tmp 143, Go.Operand.tmp 149], argTypes := #[27, 27] }, type := 27, pos := "ref.go:68", after := #[{ on := 3, ground := Go.Ground.data }, { on := 9, ground := Go.Ground.data }, { on := 3, ground := Go.Ground.chain }], guard := none }) rfl (fun K hK => ?_) ?_
                        · refine step_one rfl (.tmp 143) (.tmp 149) rfl wq.heap.size (wq.heap.size + 1) n xs (.slice (some ⟨g1, 0, none⟩) n cap1) (.int .i64 1) (.string ⟨#[]⟩) (.string ⟨#[]⟩) (.slice none 0 0) (.slice none 0 0) (.string (ofBytes u.tx)) (.int .i64 u.at') rfl rfl own1 (heap_grown grow1 (by omega) blkB) hk1 hn9 (b2).size ?_
                          intro g5 cap5 w5 own5 grow5
                          try go_simp
                          have b5 := gb b2 grow5 (b2).size hg1
                          refine hK _ _ (hSB _ b5) ?_
                          clear hK K
                          try simp only [Act.put, List.setIfInBounds_toArray, List.set_cons_zero, List.set_cons_succ]
                          refine anyL_takeD (i := 11) (oi := { dst := some 151, op := Go.Op.fieldAddr 29 (Go.Operand.tmp 8) 4, type := 0, pos := "ref.go:68", after := #[{ on := 0, ground := Go.Ground.phase }, { on := 1, ground := Go.Ground.phase }, { on := 2, ground := Go.Ground.phase }, { on := 3, ground := Go.Ground.phase }, { on := 4, ground := Go.Ground.phase }, { on := 5, ground := Go.Ground.phase }, { on := 6, ground := Go.Ground.phase }, { on := 7, ground := Go.Ground.phase }, { on := 8, ground := Go.Ground.phase }, { on := 9, ground := Go.Ground.phase }, { on := 10, ground := Go.Ground.phase }], guard := none }) (v := ?_) rfl (by decide) (by kernel_rfl) (by kernel_rfl) (by kernel_rfl) (fun _ _ _ h => h) (Or.inl ⟨by rfl, ?_⟩) ?_
                          rotate_left
                          · intro wz _
                            go_simp
                            (try with_reducible rfl)
                          try simp only [Act.put, List.setIfInBounds_toArray, List.set_cons_zero, List.set_cons_succ]
                          refine anyL_ready (rs := [12]) (by kernel_rfl) (by simp) ?_
                          refine AllL.last (o := { dst := none, op := Go.Op.store 27 (Go.Operand.tmp 151) (Go.Operand.tmp 150), type := 0, pos := "ref.go:68", after := #[{ on := 11, ground := Go.Ground.data }, { on := 10, ground := Go.Ground.data }, { on := 10, ground := Go.Ground.chain }, { on := 0, ground := Go.Ground.phase }, { on := 1, ground := Go.Ground.phase }, { on := 2, ground := Go.Ground.phase }, { on := 3, ground := Go.Ground.phase }, { on := 4, ground := Go.Ground.phase }, { on := 5, ground := Go.Ground.phase }, { on := 6, ground := Go.Ground.phase }, { on := 7, ground := Go.Ground.phase }, { on := 8, ground := Go.Ground.phase }, { on := 9, ground := Go.Ground.phase }, { on := 10, ground := Go.Ground.phase }], guard := none }) rfl (by decide) (fun K hK => ?_)
                          have s5 := (hNod.more b5).cell 4
                          have f5 := (hNod.more b5).fr 4
                          simp only [List.getElem?_toArray, List.getElem?_cons_succ, List.getElem?_cons_zero] at s5
                          go_simp
                          refine hK _ _ ?_
                          clear hK K s5 f5
                          try simp only [Act.put, List.setIfInBounds_toArray, List.set_cons_zero, List.set_cons_succ]
                          refine anyL_done (by kernel_rfl) ?_ _
                          have HPU := Lib.hid (HLQ.out.push b5 (fun L _ => char_is _ u) (by rw [← HNN.out]; exact own5))
                          have HNP := Lib.hid HPU.out.par.cells.2.1
                          go_wp2
                          go_roundw
                          case rel => exact ⟨j + 1, G, kids ++ [charN u], _, _, hlt, by omega, by omega, HRN.out, by rw [List.length_append, List.length_singleton]; omega, HKV.out, fun e => absurd e (by simp), HPU.out⟩
                          case measure => rw [M1.out, HNP.out]; simp [intOf]; omega
                        exact AllL.nil
                      exact AllL.nil
                    exact AllL.nil
                  refine AllL.cons (o := { dst := some 149, op := Go.Op.buildSlice 27 1 #[(0, Go.Operand.tmp 148)], type := 27, pos := "ref.go:68", after := #[{ on := 8, ground := Go.Ground.data }], guard := none }) rfl (fun K hK => ?_) ?_
                  · go_simp
                    refine hK _ _ (hSB _ (bA _)) ?_
                    clear hK K
                    try simp only [Act.put, List.setIfInBounds_toArray, List.set_cons_zero, List.set_cons_succ]
                    refine anyL_ready (rs := [0]) (by kernel_rfl) (by simp) ?_
                    refine AllL.cons (o := { dst := some 140, op := Go.Op.buildSlice 27 0 #[], type := 27, pos := "ref.go:68", after := #[], guard := none }) rfl (fun K hK => ?_) ?_
                    · go_simp
                      refine hK _ _ (hSB _ (bAA _ _)) ?_
                      clear hK K
                      try simp only [Act.put, List.setIfInBounds_toArray, List.set_cons_zero, List.set_cons_succ]
                      refine anyL_ready (rs := [3]) (by kernel_rfl) (by simp) ?_
                      refine AllL.cons (o := { dst := some 143, op := Go.Op.call { callee := Go.Callee.builtin Go.Builtin.append, args := #[Go.Operand.tmp 140, Go.Operand.tmp 142], argTypes := #[27, 27] }, type := 27, pos := "ref.go:68", after := #[{ on := 0, ground := Go.Ground.data }, { on := 2, ground := Go.Ground.data }], guard := none }) rfl (fun K hK => ?_) ?_
                      · refine step_copy rfl (.tmp 140) (.tmp 142) rfl wq.heap.size (wq.heap.size + 1) g n cap xs rfl rfl hE2 hxl (row_news own0 (bAA _ _)) hx1 hn0 hn9 ((bAA _ _)).size ?_
                        intro g1 cap1 w2 own1 grow1 hg1
                        try go_simp
                        have b2 := gb (bAA _ _) grow1 ((bAA _ _)).size (Nat.le_succ _)
                        refine hK _ _ (hSB _ b2) ?_
                        clear hK K
                        try simp only [Act.put, List.setIfInBounds_toArray, List.set_cons_zero, List.set_cons_succ]
                        refine anyL_ready (rs := [10]) (by kernel_rfl) (by simp) ?_
                        refine AllL.cons (o := { dst := some 150, op := Go.Op.call { callee := Go.Callee.builtin Go.Builtin.append, args := #[Go.Operand.tmp 143, Go.Operand.tmp 149], argTypes := #[27, 27] }, type := 27, pos := "ref.go:68", after := #[{ on := 3, ground := Go.Ground.data }, { on := 9, ground := Go.Ground.data }, { on := 3, ground := Go.Ground.chain }], guard := none }) rfl (fun K hK => ?_) ?_
                        · refine step_one rfl (.tmp 143) (.tmp 149) rfl wq.heap.size wq.heap.size n xs (.slice (some ⟨g1, 0, none⟩) n cap1) (.int .i64 1) (.string ⟨#[]⟩) (.string ⟨#[]⟩) (.slice none 0 0) (.slice none 0 0) (.string (ofBytes u.tx)) (.int .i64 u.at') rfl rfl own1 (heap_grown grow1 (by omega) blkC) hk1 hn9 (b2).size ?_
                          intro g5 cap5 w5 own5 grow5
                          try go_simp
                          have b5 := gb b2 grow5 (b2).size hg1
                          refine hK _ _ (hSB _ b5) ?_
                          clear hK K
                          try simp only [Act.put, List.setIfInBounds_toArray, List.set_cons_zero, List.set_cons_succ]
                          refine anyL_takeD (i := 11) (oi := { dst := some 151, op := Go.Op.fieldAddr 29 (Go.Operand.tmp 8) 4, type := 0, pos := "ref.go:68", after := #[{ on := 0, ground := Go.Ground.phase }, { on := 1, ground := Go.Ground.phase }, { on := 2, ground := Go.Ground.phase }, { on := 3, ground := Go.Ground.phase }, { on := 4, ground := Go.Ground.phase }, { on := 5, ground := Go.Ground.phase }, { on := 6, ground := Go.Ground.phase }, { on := 7, ground := Go.Ground.phase }, { on := 8, ground := Go.Ground.phase }, { on := 9, ground := Go.Ground.phase }, { on := 10, ground := Go.Ground.phase }], guard := none }) (v := ?_) rfl (by decide) (by kernel_rfl) (by kernel_rfl) (by kernel_rfl) (fun _ _ _ h => h) (Or.inl ⟨by rfl, ?_⟩) ?_
                          rotate_left
                          · intro wz _
                            go_simp
                            (try with_reducible rfl)
                          try simp only [Act.put, List.setIfInBounds_toArray, List.set_cons_zero, List.set_cons_succ]
                          refine anyL_ready (rs := [12]) (by kernel_rfl) (by simp) ?_
                          refine AllL.last (o := { dst := none, op := Go.Op.store 27 (Go.Operand.tmp 151) (Go.Operand.tmp 150), type := 0, pos := "ref.go:68", after := #[{ on := 11, ground := Go.Ground.data }, { on := 10, ground := Go.Ground.data }, { on := 10, ground := Go.Ground.chain }, { on := 0, ground := Go.Ground.phase }, { on := 1, ground := Go.Ground.phase }, { on := 2, ground := Go.Ground.phase }, { on := 3, ground := Go.Ground.phase }, { on := 4, ground := Go.Ground.phase }, { on := 5, ground := Go.Ground.phase }, { on := 6, ground := Go.Ground.phase }, { on := 7, ground := Go.Ground.phase }, { on := 8, ground := Go.Ground.phase }, { on := 9, ground := Go.Ground.phase }, { on := 10, ground := Go.Ground.phase }], guard := none }) rfl (by decide) (fun K hK => ?_)
                          have s5 := (hNod.more b5).cell 4
                          have f5 := (hNod.more b5).fr 4
                          simp only [List.getElem?_toArray, List.getElem?_cons_succ, List.getElem?_cons_zero] at s5
                          go_simp
                          refine hK _ _ ?_
                          clear hK K s5 f5
                          try simp only [Act.put, List.setIfInBounds_toArray, List.set_cons_zero, List.set_cons_succ]
                          refine anyL_done (by kernel_rfl) ?_ _
                          have HPU := Lib.hid (HLQ.out.push b5 (fun L _ => char_is _ u) (by rw [← HNN.out]; exact own5))
                          have HNP := Lib.hid HPU.out.par.cells.2.1
                          go_wp2
                          go_roundw
                          case rel => exact ⟨j + 1, G, kids ++ [charN u], _, _, hlt, by omega, by omega, HRN.out, by rw [List.length_append, List.length_singleton]; omega, HKV.out, fun e => absurd e (by simp), HPU.out⟩
                          case measure => rw [M1.out, HNP.out]; simp [intOf]; omega
                        exact AllL.nil
                      exact AllL.nil
                    exact AllL.nil
                  exact AllL.nil
        · obtain rfl : j = l.length := by omega
          have hjz : ¬ (l.length : Int) < (l.length : Int) := by omega
          have hrel := HREL.out
          rw [kidsP, List.getElem?_eq_none (Nat.le_refl _)] at hrel
          simp only at hrel
          have HRL := Lib.hid hrel
          go_wp2
          go_quiet (fail)
          have hL1 := HL.out.below (below_drewN (Below.refl wr.heap.size wr) nq)
          generalize wr.drewN nq = wq at hL1 ⊢
          have HL1 := Lib.hid hL1
          clear hL1 c0 c1 hrel
          go_wp2_with fail
          refine (tref_fail p (some ad) l.length ct (l.length : Int) a0 0 z 8 wq (HL1.out.par)).mono ?_
          rintro e w9 ⟨he9, hP9, k9⟩
          replace he9 : e = .returned (.agg #[.int .i64 0, .string ⟨#[]⟩, .string ⟨#[]⟩, .slice none 0 0, .slice none 0 0, .string ⟨#[]⟩, .int .i64 0]) := he9
          subst he9
          have R9 := (HL1.out.res).keep k9 (by omega)
          have K9 := (HL1.out.keep).trans k9
          obtain ⟨⟨r0, r1, r2, r3, r4, r5, r6⟩, g0, g1, g2, g3, g4, g5, g6⟩ := R9.seven
          have HK9 := Lib.hid K9
          have HP9 := Lib.hid hP9
          clear R9 K9 k9 hP9
          generalize hq : w.heap.size = hs at r0 r1 r2 r3 r4 r5 r6 g0 g1 g2 g3 g4 g5 g6 hRp ⊢
          have HQ := Lib.hid hq
          clear hq
          go_wp2
          exact bodyPost_ret (v := zeroV) (by simp [results, Tryd.results48, go_sem, cell_set_same, r0, r1, r2, r3, r4, r5, r6, zeroV]) rfl (by rw [HRL.out]; exact ⟨zeroV, rfl, ⟨_, _, par_sev HP9.out hRp _ _ _ _ _ _ _, fun e => absurd (show (8 : Int) = 0 from e) (by decide), fun _ => rfl⟩, keep_sev HK9.out (by have := HQ.out; omega) _ _ _ _ _ _ _, fun L _ => zero_is _⟩)
end Go.Proofs.YtoehcholbcchcaaDoor
end
