/- Packed from the texts JpM. -/
import Derived.Test.YtdooadalkbghgaaGreatDoorVJpL
section
namespace Go.Proofs.YtdooadalkbghgaaGreatDoor
open Go.RowKit
structure VaG (w0 w : World) (b : Nat) (s : ByteArray) (u vb : Nat) (cs : Array Value) (w' : World) : Prop where
  res : Bj w' w.heap.size #[.int .i64 0, .bool false, .int .i64 0, .string ⟨#[]⟩, .slice none 0 0, .slice none 0 0, .int .i64 0] 25
  box : Bj w' vb cs 25
  psr : Psr w' b s u
  part : Pb b w w'
  bel : Below w0.heap.size w0 w'
theorem VaG.start {w0 w w1 : World} {b : Nat} {s : ByteArray} {u : Nat} (hbw : b < w.heap.size) (hw : Below w0.heap.size w0 w) (hb : w0.heap.size ≤ b) (K1 : Pb b (w.alloc (.cells #[.int .i64 0, .bool false, .int .i64 0, .string ⟨#[]⟩, .slice none 0 0, .slice none 0 0, .int .i64 0] 25)) w1) (P1 : Psr w1 b s u) (cs : Array Value) :
    VaG w0 w b s u w1.heap.size cs (w1.alloc (.cells cs 25)) := by
  have b0 : Below w.heap.size w (w.alloc (.cells #[.int .i64 0, .bool false, .int .i64 0, .string ⟨#[]⟩, .slice none 0 0, .slice none 0 0, .int .i64 0] 25)) := (Below.refl _ _).alloc (Nat.le_refl _) _
  have b1 : Below w1.heap.size w1 (w1.alloc (.cells cs 25)) := (Below.refl _ _).alloc (Nat.le_refl _) _
  have k1 : Pb b w w1 := (Pj.of b0).trans K1 (fun _ _ y => y)
  exact ⟨(Pj.blk K1 (Bj.new w _ _) (by omega)).more b1, Bj.new _ _ _, P1.more b1, k1.more b1, (pb_below hw k1 hb).alloc (by have := hw.size; have := k1.size; omega) _⟩
theorem VaG.next {w0 w w' w'' : World} {b : Nat} {s : ByteArray} {u u' vb : Nat} {cs : Array Value} (h : VaG w0 w b s u vb cs w') (k : Pb b w' w'') (hp : Psr w'' b s u') (hbw : b < w.heap.size) (hb : w0.heap.size ≤ b) (hvb : b ≠ vb := by omega) : VaG w0 w b s u' vb cs w'' :=
  ⟨Pj.blk k h.res (by omega), Pj.blk k h.box (fun e => hvb e.symm), hp, h.part.trans' k, pb_below h.bel k hb⟩
theorem VaG.set {w0 w w' : World} {b : Nat} {s : ByteArray} {u vb : Nat} {cs : Array Value} (h : VaG w0 w b s u vb cs w') (hbw : b < w.heap.size) (hw : Below w0.heap.size w0 w) (hb : w0.heap.size ≤ b) (hz : w.heap.size + 1 ≤ vb) (o : Nat) (x : Value) : VaG w0 w b s u vb (cs.setIfInBounds o x) (w'.setCell ⟨vb, o, none⟩ x) :=
  ⟨h.res.own (by show vb ≠ _; omega) x, h.box.set o x, Bj.own h.psr (by show vb ≠ _; omega) x, Pj.set h.part (q := ⟨vb, o, none⟩) (.inr (by show w.heap.size ≤ vb; omega)) x, h.bel.setCell (p := ⟨vb, o, none⟩) (by have := hw.size; show w0.heap.size ≤ vb; omega) x⟩
theorem ValIs_leaf (K N a : Int) (B : Bool) (x : ByteArray) (w : World) : ValIs w (.mk K B N x [] [] a) (.agg #[.int .i64 K, .bool B, .int .i64 N, .string x, .slice none 0 0, .slice none 0 0, .int .i64 a]) := by
  rw [val_is]
  exact ⟨none, 0, none, 0, rfl, by rw [ValD.items, ItemsAt]; trivial, by rw [ValD.mems, MemsAt]; trivial⟩
theorem VaG.finish {w0 w w' : World} {b : Nat} {s : ByteArray} {u vb : Nat} {v0 v1 v2 v3 v4 v5 v6 : Value} {v : ValD} (h : VaG w0 w b s u vb #[v0, v1, v2, v3, v4, v5, v6] w') (hbw : b < w.heap.size)
    (hv : ∀ W : World, (∀ k, k ≠ w.heap.size → W.heap[k]? = w'.heap[k]?) → w'.heap.size ≤ W.heap.size → ValIs (sans W (low w.heap.size)) v (.agg #[v0, v1, v2, v3, v4, v5, v6])) :
    OutV w0 w b s (.returned (.agg #[v0, v1, v2, v3, v4, v5, v6])) (((((((w'.setCell ⟨w.heap.size, 0, none⟩ v0).setCell ⟨w.heap.size, 1, none⟩ v1).setCell ⟨w.heap.size, 2, none⟩ v2).setCell ⟨w.heap.size, 3, none⟩ v3).setCell ⟨w.heap.size, 4, none⟩ v4).setCell ⟨w.heap.size, 5, none⟩ v5).setCell ⟨w.heap.size, 6, none⟩ v6) (.ok v u) := by
  have hs : ∀ k, k ≠ w.heap.size → (((((((w'.setCell ⟨w.heap.size, 0, none⟩ v0).setCell ⟨w.heap.size, 1, none⟩ v1).setCell ⟨w.heap.size, 2, none⟩ v2).setCell ⟨w.heap.size, 3, none⟩ v3).setCell ⟨w.heap.size, 4, none⟩ v4).setCell ⟨w.heap.size, 5, none⟩ v5).setCell ⟨w.heap.size, 6, none⟩ v6).heap[k]? = w'.heap[k]? := fun k hk => by rw [Below.heap_setCell _ _ _ _ hk, Below.heap_setCell _ _ _ _ hk, Below.heap_setCell _ _ _ _ hk, Below.heap_setCell _ _ _ _ hk, Below.heap_setCell _ _ _ _ hk, Below.heap_setCell _ _ _ _ hk, Below.heap_setCell _ _ _ _ hk]
  refine ⟨⟨_, rfl, hv _ hs (by simp [World.setCell])⟩, (hs b (by omega)).trans h.psr, ((((((h.part.set (q := ⟨w.heap.size, 0, none⟩) (.inr (Nat.le_refl _)) _).set (q := ⟨w.heap.size, 1, none⟩) (.inr (Nat.le_refl _)) _).set (q := ⟨w.heap.size, 2, none⟩) (.inr (Nat.le_refl _)) _).set (q := ⟨w.heap.size, 3, none⟩) (.inr (Nat.le_refl _)) _).set (q := ⟨w.heap.size, 4, none⟩) (.inr (Nat.le_refl _)) _).set (q := ⟨w.heap.size, 5, none⟩) (.inr (Nat.le_refl _)) _).set (q := ⟨w.heap.size, 6, none⟩) (.inr (Nat.le_refl _)) _⟩
theorem pre_ne (a : UInt8) (t l : List UInt8) (u : Nat) (h : l.getD u 0 ≠ a) (hu : u < l.length) : (a :: t).isPrefixOf (l.drop u) = false := by
  rw [List.drop_eq_getElem_cons hu, List.isPrefixOf_cons_cons]
  have : (a == l[u]) = false := by
    rw [List.getD_eq_getElem?_getD, List.getElem?_eq_getElem hu] at h
    simpa using fun e : a = l[u] => h e.symm
  rw [this, Bool.false_and]
theorem word_to (l t : List UInt8) (u : Nat) (K : Int) (B : Bool) (h : t.isPrefixOf (l.drop u) = true) : (wordK u (l.drop u) t K B).to u = .ok (leafV K B 0 ⟨#[]⟩ u) (u + t.length) := by
  unfold wordK
  rw [if_pos h]
  rfl
theorem word_no (l t : List UInt8) (u : Nat) (K : Int) (B : Bool) (hu : u < l.length) (h : t.isPrefixOf (l.drop u) = false) : (wordK u (l.drop u) t K B).to u = .err u 7 := by
  unfold wordK
  rw [if_neg (by rw [h]; decide), wrongK_drop l u (by omega), if_neg (by omega)]
  rfl
theorem str_to (l : List UInt8) (u : Nat) (h34 : l.getD u 0 = 34) (hu : u < l.length) (K : List UInt8) (t x : Int) (h : parP l u = (K, t, x)) : (strK u (l.drop u)).to u = if x ≠ 0 then .err t x else .ok (leafV 3 false 0 (ofBytes K) u) (u + (t - u).toNat) := by
  have hp : parP l (u : Int) = parJ u (u + 1) ((l.drop u).drop 1) [] := by
    unfold parP
    rw [if_pos ⟨by omega, by omega, by rw [Int.toNat_natCast]; exact h34⟩, Int.toNat_natCast, List.drop_drop]
  unfold strK
  rw [← hp, h]
  simp only
  split <;> rfl
theorem num_to (l : List UInt8) (u : Nat) : (numK u (l.drop u)).to u = match jnumL ((l.drop u).takeWhile numP) with
    | some n => .ok (leafV 2 false n ⟨#[]⟩ u) (u + ((l.drop u).takeWhile numP).length)
    | none => .err u 15 := by
  unfold numK
  cases jnumL ((l.drop u).takeWhile numP) <;> rfl
theorem num_head (l : List UInt8) (u : Nat) (hu : u < l.length) (h : l.getD u 0 = 45 ∨ (48 ≤ (l.getD u 0).toNat ∧ (l.getD u 0).toNat ≤ 57)) : ((l.drop u).takeWhile numP).getD 0 0 = l.getD u 0 := by
  have hg : l.getD u 0 = l[u] := by rw [List.getD_eq_getElem?_getD, List.getElem?_eq_getElem hu]; rfl
  rw [hg] at h ⊢
  rw [List.drop_eq_getElem_cons hu, List.takeWhile_cons]
  have : numP l[u] = true := by
    unfold numP jnumB
    rw [decide_eq_true_eq]
    rcases h with h | h
    · rw [h]; decide
    · omega
  rw [if_pos this]
  rfl
theorem ValIs_listI {w w6 w' : World} {n5 vb : Nat} {st : List ValD} {u : Nat} {p : Option Addr} {c : Nat} (hrow : ItemsAt (sans w6 (low n5)) p 0 st) (hn : w.heap.size < n5) (hs : ∀ k, k ≠ vb → w'.heap[k]? = w6.heap[k]?) (hvb : vb < n5) : ∀ W : World, (∀ k, k ≠ w.heap.size → W.heap[k]? = w'.heap[k]?) → w'.heap.size ≤ W.heap.size → ValIs (sans W (low w.heap.size)) (.mk 4 false 0 ⟨#[]⟩ st [] u) (.agg #[.int .i64 4, .bool false, .int .i64 0, .string ⟨#[]⟩, .slice p st.length c, .slice none 0 0, .int .i64 (u : Int)]) := by
  intro W hW _
  rw [val_is]
  refine ⟨p, c, none, 0, rfl, ItemsAt.mono (fun a v ha => Gos.cell (w := w6) (X := low n5) (fun k hk hn => ?_) a v ha) _ _ _ hrow, by rw [ValD.mems, MemsAt]; trivial⟩
  have := low_no hn
  exact ⟨low_ok (by omega), (hW k (by omega)).trans (hs k (by omega))⟩
theorem ValIs_listM {w w6 w' : World} {n5 vb : Nat} {st : List MemD} {u : Nat} {p : Option Addr} {c : Nat} (hrow : MemsAt (sans w6 (low n5)) p 0 st) (hn : w.heap.size < n5) (hs : ∀ k, k ≠ vb → w'.heap[k]? = w6.heap[k]?) (hvb : vb < n5) : ∀ W : World, (∀ k, k ≠ w.heap.size → W.heap[k]? = w'.heap[k]?) → w'.heap.size ≤ W.heap.size → ValIs (sans W (low w.heap.size)) (.mk 5 false 0 ⟨#[]⟩ [] st u) (.agg #[.int .i64 5, .bool false, .int .i64 0, .string ⟨#[]⟩, .slice none 0 0, .slice p st.length c, .int .i64 (u : Int)]) := by
  intro W hW _
  rw [val_is]
  refine ⟨none, 0, p, c, rfl, by rw [ValD.items, ItemsAt]; trivial, MemsAt.mono (fun a v ha => Gos.cell (w := w6) (X := low n5) (fun k hk hn => ?_) a v ha) _ _ _ hrow⟩
  have := low_no hn
  exact ⟨low_ok (by omega), (hW k (by omega)).trans (hs k (by omega))⟩
theorem arr_form {R : Lres (List ValD)} {u j : Nat} {v : ValD} (h : R.arr u = .ok v j) : ∃ st, v = .mk 4 false 0 ⟨#[]⟩ st [] u := by
  cases R with
  | err a e => cases h
  | ok st j' =>
    injection h with h1 h2
    exact ⟨st, h1.symm⟩
theorem obj_form {R : Lres (List MemD)} {u j : Nat} {v : ValD} (h : R.obj u = .ok v j) : ∃ st, v = .mk 5 false 0 ⟨#[]⟩ [] st u := by
  cases R with
  | err a e => cases h
  | ok st j' =>
    injection h with h1 h2
    exact ⟨st, h1.symm⟩
set_option maxRecDepth 100000 in
set_option maxHeartbeats 64000000 in
theorem jp_value_step (w0 : World) (b : Nat) (s : ByteArray) (m : Nat) (hV : ∀ m', m = m' + 1 → JqV w0 b s m') (hs : s.size ≤ 1000000) (hT : TabV w0) (hb : w0.heap.size ≤ b) : JqV w0 b s m := by
  intro i d w hi him hd hP hw
  have hsl : s.data.toList.length = s.size := by simp
  have hbl := hP.lt
  rw [vA_eq]
  have hsp := spP_le s.data.toList i (by rw [hsl]; exact hi)
  rw [hsl] at hsp
  have PZ : Psr (w.alloc (.cells #[.int .i64 0, .bool false, .int .i64 0, .string ⟨#[]⟩, .slice none 0 0, .slice none 0 0, .int .i64 0] 25)) b s i := hP.more ((Below.refl _ _).alloc (Nat.le_refl _) _)
  by_cases hue : s.size ≤ spP s.data.toList i
  · have cN := jp_next_eof b s i _ PZ hi hs (by omega)
    have K0 : Pb b w (w.alloc (.cells #[.int .i64 0, .bool false, .int .i64 0, .string ⟨#[]⟩, .slice none 0 0, .slice none 0 0, .int .i64 0] 25)) := Pj.of ((Below.refl _ _).alloc (Nat.le_refl _) _)
    rw [hA_end _ _ _ (by omega), show ((spP s.data.toList i : Nat) : Int) = (s.size : Int) by omega]
    have HW := Lib.hid hw
    clear PZ hP hw
    go_enter Tryz.func40, Tryz.ntmps40
    go_wp2_with fail
    refine cN.mono ?_
    rintro e w1 ⟨rfl, K1⟩
    go_wp2
    exact ⟨rfl, rfl, pb_below HW.out (K0.trans' K1) hb⟩
  have cN := jp_next b s i _ PZ hi hs (by omega)
  obtain ⟨u, hu⟩ : ∃ u, spP s.data.toList i = u := ⟨_, rfl⟩
  rw [hu] at cN hsp hue ⊢
  clear hu PZ
  have huz : u ≤ s.size := by omega
  have hul : u < s.data.toList.length := by omega
  have cF : ∀ wx, _ := fun wx => jp_fail (u : Int) 7 wx
  have hhd := hA_eq s.data.toList u d hul
  obtain ⟨ch, hch⟩ : ∃ ch, s.data.toList.getD u 0 = ch := ⟨_, rfl⟩
  have hpn : ch ≠ 110 → ([110, 117, 108, 108] : List UInt8).isPrefixOf (s.data.toList.drop u) = false := fun h => pre_ne _ _ _ _ (by rw [hch]; exact h) hul
  have hpt : ch ≠ 116 → ([116, 114, 117, 101] : List UInt8).isPrefixOf (s.data.toList.drop u) = false := fun h => pre_ne _ _ _ _ (by rw [hch]; exact h) hul
  have hpf : ch ≠ 102 → ([102, 97, 108, 115, 101] : List UInt8).isPrefixOf (s.data.toList.drop u) = false := fun h => pre_ne _ _ _ _ (by rw [hch]; exact h) hul
  by_cases c1 : ch = 110
  · subst c1
    rw [hch] at cN
    rw [if_pos hch] at hhd
    have pnt := hpt (by decide)
    have pnf := hpf (by decide)
    rw [hhd]
    rcases pnn : ([110, 117, 108, 108] : List UInt8).isPrefixOf (s.data.toList.drop u) with _ | _
    · rw [word_no _ _ _ _ _ hul pnn]
      clear hhd hpn hpt hpf hch hV
      go_enter Tryz.func40, Tryz.ntmps40
      go_wp2_with fail
      refine cN.mono ?_
      rintro e w1 ⟨rfl, P1, K1⟩
      have c1a := P1.c1
      have hz1 : w.heap.size + 1 ≤ w1.heap.size := by have := K1.size; rw [World.size_alloc] at this; exact this
      have G2 : VaG w0 w b s u w1.heap.size #[.int .i64 0, .bool false, .int .i64 0, .string ⟨#[]⟩, .slice none 0 0, .slice none 0 0, .int .i64 (u : Int)] (w1.alloc (.cells #[.int .i64 0, .bool false, .int .i64 0, .string ⟨#[]⟩, .slice none 0 0, .slice none 0 0, .int .i64 (u : Int)] 25)) := VaG.start hP.lt hw hb K1 P1 _
      clear K1 P1
      have cWn := jp_word_no b s ⟨#[110, 117, 108, 108]⟩ u (w1.alloc (.cells #[.int .i64 0, .bool false, .int .i64 0, .string ⟨#[]⟩, .slice none 0 0, .slice none 0 0, .int .i64 (u : Int)] 25)) G2.psr huz (by exact pnn)
      go_wp2_with fail
      refine cWn.mono ?_
      rintro e w3 ⟨rfl, P3, b3⟩
      have G3 : VaG w0 w b s u w1.heap.size #[.int .i64 0, .bool false, .int .i64 0, .string ⟨#[]⟩, .slice none 0 0, .slice none 0 0, .int .i64 (u : Int)] w3 := G2.next (Pj.of b3) P3 hP.lt hb
      clear b3 P3 cWn G2
      have cWt := jp_word_no b s ⟨#[116, 114, 117, 101]⟩ u w3 G3.psr huz (by exact pnt)
      go_wp2_with fail
      refine cWt.mono ?_
      rintro e w4 ⟨rfl, P4, b4⟩
      have G4 : VaG w0 w b s u w1.heap.size #[.int .i64 0, .bool false, .int .i64 0, .string ⟨#[]⟩, .slice none 0 0, .slice none 0 0, .int .i64 (u : Int)] w4 := G3.next (Pj.of b4) P4 hP.lt hb
      clear b4 P4 cWt G3
      have cWf := jp_word_no b s ⟨#[102, 97, 108, 115, 101]⟩ u w4 G4.psr huz (by exact pnf)
      go_wp2_with fail
      refine cWf.mono ?_
      rintro e w5 ⟨rfl, P5, b5⟩
      have G5 : VaG w0 w b s u w1.heap.size #[.int .i64 0, .bool false, .int .i64 0, .string ⟨#[]⟩, .slice none 0 0, .slice none 0 0, .int .i64 (u : Int)] w5 := G4.next (Pj.of b5) P5 hP.lt hb
      clear b5 P5 cWf G4
      have c5a := G5.psr.c1
      have HL := Lib.hid G5.bel
      clear G5
      go_wp2_with fail
      refine (cF _).mono ?_
      rintro e w6 ⟨rfl, rfl⟩
      go_wp2
      exact ⟨rfl, rfl, HL.out⟩
    · rw [word_to _ _ _ _ _ pnn]
      clear hhd hpn hpt hpf hch hV
      go_enter Tryz.func40, Tryz.ntmps40
      go_wp2_with fail
      refine cN.mono ?_
      rintro e w1 ⟨rfl, P1, K1⟩
      have c1a := P1.c1
      have hz1 : w.heap.size + 1 ≤ w1.heap.size := by have := K1.size; rw [World.size_alloc] at this; exact this
      have G2 : VaG w0 w b s u w1.heap.size #[.int .i64 0, .bool false, .int .i64 0, .string ⟨#[]⟩, .slice none 0 0, .slice none 0 0, .int .i64 (u : Int)] (w1.alloc (.cells #[.int .i64 0, .bool false, .int .i64 0, .string ⟨#[]⟩, .slice none 0 0, .slice none 0 0, .int .i64 (u : Int)] 25)) := VaG.start hP.lt hw hb K1 P1 _
      clear K1 P1
      have cWn := jp_word_yes b s ⟨#[110, 117, 108, 108]⟩ u (w1.alloc (.cells #[.int .i64 0, .bool false, .int .i64 0, .string ⟨#[]⟩, .slice none 0 0, .slice none 0 0, .int .i64 (u : Int)] 25)) G2.psr huz hs (by decide) (by exact pnn)
      go_wp2_with fail
      refine cWn.mono ?_
      rintro e w3 ⟨rfl, P3, K3⟩
      have G3 := G2.next K3 P3 hP.lt hb
      clear K3 P3 cWn G2
      obtain ⟨⟨r0, r1, r2, r3, r4, r5, r6⟩, y0, y1, y2, y3, y4, y5, y6⟩ := G3.box.seven
      obtain ⟨⟨x0, x1, x2, x3, x4, x5, x6⟩, k0, k1, k2, k3, k4, k5, k6⟩ := G3.res.seven
      have hvn : w1.heap.size ≠ w.heap.size := by omega
      have hnv : w.heap.size ≠ w1.heap.size := by omega
      have HG := Lib.hid G3
      clear G3
      go_wp2
      exact bodyPost_ret (v := .agg #[.int .i64 0, .bool false, .int .i64 0, .string ⟨#[]⟩, .slice none 0 0, .slice none 0 0, .int .i64 (u : Int)]) (by simp [results, Tryz.results40, go_sem, jset_same, x0, x1, x2, x3, x4, x5, x6]) rfl ((show VaG w0 w b s _ w1.heap.size #[.int .i64 0, .bool false, .int .i64 0, .string ⟨#[]⟩, .slice none 0 0, .slice none 0 0, .int .i64 (u : Int)] _ from (HG.out.set hP.lt hw hb hz1 0 (.int .i64 0))).finish hP.lt (fun W _ _ => ValIs_leaf _ _ _ _ _ _))
  by_cases c2 : ch = 116
  · subst c2
    rw [hch] at cN
    rw [if_neg (by rw [hch]; decide), if_pos hch] at hhd
    have pnn := hpn (by decide)
    have pnf := hpf (by decide)
    rw [hhd]
    rcases pnt : ([116, 114, 117, 101] : List UInt8).isPrefixOf (s.data.toList.drop u) with _ | _
    · rw [word_no _ _ _ _ _ hul pnt]
      clear hhd hpn hpt hpf hch hV
      go_enter Tryz.func40, Tryz.ntmps40
      go_wp2_with fail
      refine cN.mono ?_
      rintro e w1 ⟨rfl, P1, K1⟩
      have c1a := P1.c1
      have hz1 : w.heap.size + 1 ≤ w1.heap.size := by have := K1.size; rw [World.size_alloc] at this; exact this
      have G2 : VaG w0 w b s u w1.heap.size #[.int .i64 0, .bool false, .int .i64 0, .string ⟨#[]⟩, .slice none 0 0, .slice none 0 0, .int .i64 (u : Int)] (w1.alloc (.cells #[.int .i64 0, .bool false, .int .i64 0, .string ⟨#[]⟩, .slice none 0 0, .slice none 0 0, .int .i64 (u : Int)] 25)) := VaG.start hP.lt hw hb K1 P1 _
      clear K1 P1
      have cWn := jp_word_no b s ⟨#[110, 117, 108, 108]⟩ u (w1.alloc (.cells #[.int .i64 0, .bool false, .int .i64 0, .string ⟨#[]⟩, .slice none 0 0, .slice none 0 0, .int .i64 (u : Int)] 25)) G2.psr huz (by exact pnn)
      go_wp2_with fail
      refine cWn.mono ?_
      rintro e w3 ⟨rfl, P3, b3⟩
      have G3 : VaG w0 w b s u w1.heap.size #[.int .i64 0, .bool false, .int .i64 0, .string ⟨#[]⟩, .slice none 0 0, .slice none 0 0, .int .i64 (u : Int)] w3 := G2.next (Pj.of b3) P3 hP.lt hb
      clear b3 P3 cWn G2
      have cWt := jp_word_no b s ⟨#[116, 114, 117, 101]⟩ u w3 G3.psr huz (by exact pnt)
      go_wp2_with fail
      refine cWt.mono ?_
      rintro e w4 ⟨rfl, P4, b4⟩
      have G4 : VaG w0 w b s u w1.heap.size #[.int .i64 0, .bool false, .int .i64 0, .string ⟨#[]⟩, .slice none 0 0, .slice none 0 0, .int .i64 (u : Int)] w4 := G3.next (Pj.of b4) P4 hP.lt hb
      clear b4 P4 cWt G3
      have cWf := jp_word_no b s ⟨#[102, 97, 108, 115, 101]⟩ u w4 G4.psr huz (by exact pnf)
      go_wp2_with fail
      refine cWf.mono ?_
      rintro e w5 ⟨rfl, P5, b5⟩
      have G5 : VaG w0 w b s u w1.heap.size #[.int .i64 0, .bool false, .int .i64 0, .string ⟨#[]⟩, .slice none 0 0, .slice none 0 0, .int .i64 (u : Int)] w5 := G4.next (Pj.of b5) P5 hP.lt hb
      clear b5 P5 cWf G4
      have c5a := G5.psr.c1
      have HL := Lib.hid G5.bel
      clear G5
      go_wp2_with fail
      refine (cF _).mono ?_
      rintro e w6 ⟨rfl, rfl⟩
      go_wp2
      exact ⟨rfl, rfl, HL.out⟩
    · rw [word_to _ _ _ _ _ pnt]
      clear hhd hpn hpt hpf hch hV
      go_enter Tryz.func40, Tryz.ntmps40
      go_wp2_with fail
      refine cN.mono ?_
      rintro e w1 ⟨rfl, P1, K1⟩
      have c1a := P1.c1
      have hz1 : w.heap.size + 1 ≤ w1.heap.size := by have := K1.size; rw [World.size_alloc] at this; exact this
      have G2 : VaG w0 w b s u w1.heap.size #[.int .i64 0, .bool false, .int .i64 0, .string ⟨#[]⟩, .slice none 0 0, .slice none 0 0, .int .i64 (u : Int)] (w1.alloc (.cells #[.int .i64 0, .bool false, .int .i64 0, .string ⟨#[]⟩, .slice none 0 0, .slice none 0 0, .int .i64 (u : Int)] 25)) := VaG.start hP.lt hw hb K1 P1 _
      clear K1 P1
      have cWn := jp_word_no b s ⟨#[110, 117, 108, 108]⟩ u (w1.alloc (.cells #[.int .i64 0, .bool false, .int .i64 0, .string ⟨#[]⟩, .slice none 0 0, .slice none 0 0, .int .i64 (u : Int)] 25)) G2.psr huz (by exact pnn)
      go_wp2_with fail
      refine cWn.mono ?_
      rintro e w3 ⟨rfl, P3, b3⟩
      have G3 : VaG w0 w b s u w1.heap.size #[.int .i64 0, .bool false, .int .i64 0, .string ⟨#[]⟩, .slice none 0 0, .slice none 0 0, .int .i64 (u : Int)] w3 := G2.next (Pj.of b3) P3 hP.lt hb
      clear b3 P3 cWn G2
      have cWt := jp_word_yes b s ⟨#[116, 114, 117, 101]⟩ u w3 G3.psr huz hs (by decide) (by exact pnt)
      go_wp2_with fail
      refine cWt.mono ?_
      rintro e w4 ⟨rfl, P4, K4⟩
      have G4 := G3.next K4 P4 hP.lt hb
      clear K4 P4 cWt G3
      obtain ⟨⟨r0, r1, r2, r3, r4, r5, r6⟩, y0, y1, y2, y3, y4, y5, y6⟩ := G4.box.seven
      obtain ⟨⟨x0, x1, x2, x3, x4, x5, x6⟩, k0, k1, k2, k3, k4, k5, k6⟩ := G4.res.seven
      have hvn : w1.heap.size ≠ w.heap.size := by omega
      have hnv : w.heap.size ≠ w1.heap.size := by omega
      have HG := Lib.hid G4
      clear G4
      go_wp2
      exact bodyPost_ret (v := .agg #[.int .i64 1, .bool true, .int .i64 0, .string ⟨#[]⟩, .slice none 0 0, .slice none 0 0, .int .i64 (u : Int)]) (by simp [results, Tryz.results40, go_sem, jset_same, x0, x1, x2, x3, x4, x5, x6]) rfl ((show VaG w0 w b s _ w1.heap.size #[.int .i64 1, .bool true, .int .i64 0, .string ⟨#[]⟩, .slice none 0 0, .slice none 0 0, .int .i64 (u : Int)] _ from ((HG.out.set hP.lt hw hb hz1 0 (.int .i64 1)).set hP.lt hw hb hz1 1 (.bool true))).finish hP.lt (fun W _ _ => ValIs_leaf _ _ _ _ _ _))
  by_cases c3 : ch = 102
  · subst c3
    rw [hch] at cN
    rw [if_neg (by rw [hch]; decide), if_neg (by rw [hch]; decide), if_pos hch] at hhd
    have pnn := hpn (by decide)
    have pnt := hpt (by decide)
    rw [hhd]
    rcases pnf : ([102, 97, 108, 115, 101] : List UInt8).isPrefixOf (s.data.toList.drop u) with _ | _
    · rw [word_no _ _ _ _ _ hul pnf]
      clear hhd hpn hpt hpf hch hV
      go_enter Tryz.func40, Tryz.ntmps40
      go_wp2_with fail
      refine cN.mono ?_
      rintro e w1 ⟨rfl, P1, K1⟩
      have c1a := P1.c1
      have hz1 : w.heap.size + 1 ≤ w1.heap.size := by have := K1.size; rw [World.size_alloc] at this; exact this
      have G2 : VaG w0 w b s u w1.heap.size #[.int .i64 0, .bool false, .int .i64 0, .string ⟨#[]⟩, .slice none 0 0, .slice none 0 0, .int .i64 (u : Int)] (w1.alloc (.cells #[.int .i64 0, .bool false, .int .i64 0, .string ⟨#[]⟩, .slice none 0 0, .slice none 0 0, .int .i64 (u : Int)] 25)) := VaG.start hP.lt hw hb K1 P1 _
      clear K1 P1
      have cWn := jp_word_no b s ⟨#[110, 117, 108, 108]⟩ u (w1.alloc (.cells #[.int .i64 0, .bool false, .int .i64 0, .string ⟨#[]⟩, .slice none 0 0, .slice none 0 0, .int .i64 (u : Int)] 25)) G2.psr huz (by exact pnn)
      go_wp2_with fail
      refine cWn.mono ?_
      rintro e w3 ⟨rfl, P3, b3⟩
      have G3 : VaG w0 w b s u w1.heap.size #[.int .i64 0, .bool false, .int .i64 0, .string ⟨#[]⟩, .slice none 0 0, .slice none 0 0, .int .i64 (u : Int)] w3 := G2.next (Pj.of b3) P3 hP.lt hb
      clear b3 P3 cWn G2
      have cWt := jp_word_no b s ⟨#[116, 114, 117, 101]⟩ u w3 G3.psr huz (by exact pnt)
      go_wp2_with fail
      refine cWt.mono ?_
      rintro e w4 ⟨rfl, P4, b4⟩
      have G4 : VaG w0 w b s u w1.heap.size #[.int .i64 0, .bool false, .int .i64 0, .string ⟨#[]⟩, .slice none 0 0, .slice none 0 0, .int .i64 (u : Int)] w4 := G3.next (Pj.of b4) P4 hP.lt hb
      clear b4 P4 cWt G3
      have cWf := jp_word_no b s ⟨#[102, 97, 108, 115, 101]⟩ u w4 G4.psr huz (by exact pnf)
      go_wp2_with fail
      refine cWf.mono ?_
      rintro e w5 ⟨rfl, P5, b5⟩
      have G5 : VaG w0 w b s u w1.heap.size #[.int .i64 0, .bool false, .int .i64 0, .string ⟨#[]⟩, .slice none 0 0, .slice none 0 0, .int .i64 (u : Int)] w5 := G4.next (Pj.of b5) P5 hP.lt hb
      clear b5 P5 cWf G4
      have c5a := G5.psr.c1
      have HL := Lib.hid G5.bel
      clear G5
      go_wp2_with fail
      refine (cF _).mono ?_
      rintro e w6 ⟨rfl, rfl⟩
      go_wp2
      exact ⟨rfl, rfl, HL.out⟩
    · rw [word_to _ _ _ _ _ pnf]
      clear hhd hpn hpt hpf hch hV
      go_enter Tryz.func40, Tryz.ntmps40
      go_wp2_with fail
      refine cN.mono ?_
      rintro e w1 ⟨rfl, P1, K1⟩
      have c1a := P1.c1
      have hz1 : w.heap.size + 1 ≤ w1.heap.size := by have := K1.size; rw [World.size_alloc] at this; exact this
      have G2 : VaG w0 w b s u w1.heap.size #[.int .i64 0, .bool false, .int .i64 0, .string ⟨#[]⟩, .slice none 0 0, .slice none 0 0, .int .i64 (u : Int)] (w1.alloc (.cells #[.int .i64 0, .bool false, .int .i64 0, .string ⟨#[]⟩, .slice none 0 0, .slice none 0 0, .int .i64 (u : Int)] 25)) := VaG.start hP.lt hw hb K1 P1 _
      clear K1 P1
      have cWn := jp_word_no b s ⟨#[110, 117, 108, 108]⟩ u (w1.alloc (.cells #[.int .i64 0, .bool false, .int .i64 0, .string ⟨#[]⟩, .slice none 0 0, .slice none 0 0, .int .i64 (u : Int)] 25)) G2.psr huz (by exact pnn)
      go_wp2_with fail
      refine cWn.mono ?_
      rintro e w3 ⟨rfl, P3, b3⟩
      have G3 : VaG w0 w b s u w1.heap.size #[.int .i64 0, .bool false, .int .i64 0, .string ⟨#[]⟩, .slice none 0 0, .slice none 0 0, .int .i64 (u : Int)] w3 := G2.next (Pj.of b3) P3 hP.lt hb
      clear b3 P3 cWn G2
      have cWt := jp_word_no b s ⟨#[116, 114, 117, 101]⟩ u w3 G3.psr huz (by exact pnt)
      go_wp2_with fail
      refine cWt.mono ?_
      rintro e w4 ⟨rfl, P4, b4⟩
      have G4 : VaG w0 w b s u w1.heap.size #[.int .i64 0, .bool false, .int .i64 0, .string ⟨#[]⟩, .slice none 0 0, .slice none 0 0, .int .i64 (u : Int)] w4 := G3.next (Pj.of b4) P4 hP.lt hb
      clear b4 P4 cWt G3
      have cWf := jp_word_yes b s ⟨#[102, 97, 108, 115, 101]⟩ u w4 G4.psr huz hs (by decide) (by exact pnf)
      go_wp2_with fail
      refine cWf.mono ?_
      rintro e w5 ⟨rfl, P5, K5⟩
      have G5 := G4.next K5 P5 hP.lt hb
      clear K5 P5 cWf G4
      obtain ⟨⟨r0, r1, r2, r3, r4, r5, r6⟩, y0, y1, y2, y3, y4, y5, y6⟩ := G5.box.seven
      obtain ⟨⟨x0, x1, x2, x3, x4, x5, x6⟩, k0, k1, k2, k3, k4, k5, k6⟩ := G5.res.seven
      have hvn : w1.heap.size ≠ w.heap.size := by omega
      have hnv : w.heap.size ≠ w1.heap.size := by omega
      have HG := Lib.hid G5
      clear G5
      go_wp2
      exact bodyPost_ret (v := .agg #[.int .i64 1, .bool false, .int .i64 0, .string ⟨#[]⟩, .slice none 0 0, .slice none 0 0, .int .i64 (u : Int)]) (by simp [results, Tryz.results40, go_sem, jset_same, x0, x1, x2, x3, x4, x5, x6]) rfl ((show VaG w0 w b s _ w1.heap.size #[.int .i64 1, .bool false, .int .i64 0, .string ⟨#[]⟩, .slice none 0 0, .slice none 0 0, .int .i64 (u : Int)] _ from (HG.out.set hP.lt hw hb hz1 0 (.int .i64 1))).finish hP.lt (fun W _ _ => ValIs_leaf _ _ _ _ _ _))
  have pnn := hpn c1
  have pnt := hpt c2
  have pnf := hpf c3
  rw [if_neg (by rw [hch]; exact c1), if_neg (by rw [hch]; exact c2), if_neg (by rw [hch]; exact c3)] at hhd
  by_cases c4 : ch = 34
  · subst c4
    rw [if_pos hch] at hhd
    rw [hch] at cN
    obtain ⟨⟨K, t, x⟩, hPp⟩ : ∃ P, parP s.data.toList (u : Int) = P := ⟨_, rfl⟩
    rw [str_to _ _ hch hul K t x hPp] at hhd
    rw [hhd]
    by_cases hx : x ≠ 0
    · rw [if_pos hx]
      clear hhd hpn hpt hpf hch hV c1 c2 c3
      go_enter Tryz.func40, Tryz.ntmps40
      go_wp2_with fail
      refine cN.mono ?_
      rintro e w1 ⟨rfl, P1, K1⟩
      have c1a := P1.c1
      have hz1 : w.heap.size + 1 ≤ w1.heap.size := by have := K1.size; rw [World.size_alloc] at this; exact this
      have G2 : VaG w0 w b s u w1.heap.size #[.int .i64 0, .bool false, .int .i64 0, .string ⟨#[]⟩, .slice none 0 0, .slice none 0 0, .int .i64 (u : Int)] (w1.alloc (.cells #[.int .i64 0, .bool false, .int .i64 0, .string ⟨#[]⟩, .slice none 0 0, .slice none 0 0, .int .i64 (u : Int)] 25)) := VaG.start hP.lt hw hb K1 P1 _
      clear K1 P1
      have cWn := jp_word_no b s ⟨#[110, 117, 108, 108]⟩ u (w1.alloc (.cells #[.int .i64 0, .bool false, .int .i64 0, .string ⟨#[]⟩, .slice none 0 0, .slice none 0 0, .int .i64 (u : Int)] 25)) G2.psr huz (by exact pnn)
      go_wp2_with fail
      refine cWn.mono ?_
      rintro e w3 ⟨rfl, P3, b3⟩
      have G3 : VaG w0 w b s u w1.heap.size #[.int .i64 0, .bool false, .int .i64 0, .string ⟨#[]⟩, .slice none 0 0, .slice none 0 0, .int .i64 (u : Int)] w3 := G2.next (Pj.of b3) P3 hP.lt hb
      clear b3 P3 cWn G2
      have cWt := jp_word_no b s ⟨#[116, 114, 117, 101]⟩ u w3 G3.psr huz (by exact pnt)
      go_wp2_with fail
      refine cWt.mono ?_
      rintro e w4 ⟨rfl, P4, b4⟩
      have G4 : VaG w0 w b s u w1.heap.size #[.int .i64 0, .bool false, .int .i64 0, .string ⟨#[]⟩, .slice none 0 0, .slice none 0 0, .int .i64 (u : Int)] w4 := G3.next (Pj.of b4) P4 hP.lt hb
      clear b4 P4 cWt G3
      have cWf := jp_word_no b s ⟨#[102, 97, 108, 115, 101]⟩ u w4 G4.psr huz (by exact pnf)
      go_wp2_with fail
      refine cWf.mono ?_
      rintro e w5 ⟨rfl, P5, b5⟩
      have G5 : VaG w0 w b s u w1.heap.size #[.int .i64 0, .bool false, .int .i64 0, .string ⟨#[]⟩, .slice none 0 0, .slice none 0 0, .int .i64 (u : Int)] w5 := G4.next (Pj.of b5) P5 hP.lt hb
      clear b5 P5 cWf G4
      have cS := jp_str_bad b s u K t x w5 G5.psr hs (TabJ_below hT.1 G5.bel) hPp hx
      have HL := Lib.hid G5.bel
      clear G5
      go_wp2_with fail
      refine cS.mono ?_
      rintro e w6 ⟨rfl, K6⟩
      go_wp2
      exact ⟨rfl, rfl, pb_below HL.out K6 hb⟩
    · rw [if_neg hx]
      obtain rfl : x = 0 := by omega
      obtain ⟨t', rfl, hut, -, -⟩ := kA_good (keys := []) hul hPp
      obtain ⟨t, rfl⟩ : ∃ t, t = t' := ⟨_, rfl⟩
      obtain ⟨KB, hKB⟩ : ∃ KB, ofBytes K = KB := ⟨_, rfl⟩
      rw [hKB, show u + ((t : Int) - (u : Int)).toNat = t by omega]
      clear hhd hpn hpt hpf hch hV c1 c2 c3 hx
      go_enter Tryz.func40, Tryz.ntmps40
      go_wp2_with fail
      refine cN.mono ?_
      rintro e w1 ⟨rfl, P1, K1⟩
      have c1a := P1.c1
      have hz1 : w.heap.size + 1 ≤ w1.heap.size := by have := K1.size; rw [World.size_alloc] at this; exact this
      have G2 : VaG w0 w b s u w1.heap.size #[.int .i64 0, .bool false, .int .i64 0, .string ⟨#[]⟩, .slice none 0 0, .slice none 0 0, .int .i64 (u : Int)] (w1.alloc (.cells #[.int .i64 0, .bool false, .int .i64 0, .string ⟨#[]⟩, .slice none 0 0, .slice none 0 0, .int .i64 (u : Int)] 25)) := VaG.start hP.lt hw hb K1 P1 _
      clear K1 P1
      have cWn := jp_word_no b s ⟨#[110, 117, 108, 108]⟩ u (w1.alloc (.cells #[.int .i64 0, .bool false, .int .i64 0, .string ⟨#[]⟩, .slice none 0 0, .slice none 0 0, .int .i64 (u : Int)] 25)) G2.psr huz (by exact pnn)
      go_wp2_with fail
      refine cWn.mono ?_
      rintro e w3 ⟨rfl, P3, b3⟩
      have G3 : VaG w0 w b s u w1.heap.size #[.int .i64 0, .bool false, .int .i64 0, .string ⟨#[]⟩, .slice none 0 0, .slice none 0 0, .int .i64 (u : Int)] w3 := G2.next (Pj.of b3) P3 hP.lt hb
      clear b3 P3 cWn G2
      have cWt := jp_word_no b s ⟨#[116, 114, 117, 101]⟩ u w3 G3.psr huz (by exact pnt)
      go_wp2_with fail
      refine cWt.mono ?_
      rintro e w4 ⟨rfl, P4, b4⟩
      have G4 : VaG w0 w b s u w1.heap.size #[.int .i64 0, .bool false, .int .i64 0, .string ⟨#[]⟩, .slice none 0 0, .slice none 0 0, .int .i64 (u : Int)] w4 := G3.next (Pj.of b4) P4 hP.lt hb
      clear b4 P4 cWt G3
      have cWf := jp_word_no b s ⟨#[102, 97, 108, 115, 101]⟩ u w4 G4.psr huz (by exact pnf)
      go_wp2_with fail
      refine cWf.mono ?_
      rintro e w5 ⟨rfl, P5, b5⟩
      have G5 : VaG w0 w b s u w1.heap.size #[.int .i64 0, .bool false, .int .i64 0, .string ⟨#[]⟩, .slice none 0 0, .slice none 0 0, .int .i64 (u : Int)] w5 := G4.next (Pj.of b5) P5 hP.lt hb
      clear b5 P5 cWf G4
      have cS := jp_str_ok b s u K (t : Int) w5 G5.psr hs (TabJ_below hT.1 G5.bel) hPp
      rw [hKB] at cS
      go_wp2_with fail
      refine cS.mono ?_
      rintro e w6 ⟨rfl, P6, K6⟩
      have G6 := G5.next K6 P6 hP.lt hb
      clear G5 K6 P6
      obtain ⟨⟨r0, r1, r2, r3, r4, r5, r6⟩, y0, y1, y2, y3, y4, y5, y6⟩ := G6.box.seven
      obtain ⟨⟨x0, x1, x2, x3, x4, x5, x6⟩, k0, k1, k2, k3, k4, k5, k6⟩ := G6.res.seven
      have hvn : w1.heap.size ≠ w.heap.size := by omega
      have hnv : w.heap.size ≠ w1.heap.size := by omega
      have HG := Lib.hid G6
      clear G6
      go_wp2
      exact bodyPost_ret (v := .agg #[.int .i64 3, .bool false, .int .i64 0, .string KB, .slice none 0 0, .slice none 0 0, .int .i64 (u : Int)]) (by simp [results, Tryz.results40, go_sem, jset_same, x0, x1, x2, x3, x4, x5, x6]) rfl ((show VaG w0 w b s _ w1.heap.size #[.int .i64 3, .bool false, .int .i64 0, .string KB, .slice none 0 0, .slice none 0 0, .int .i64 (u : Int)] _ from ((HG.out.set hP.lt hw hb hz1 0 (.int .i64 3)).set hP.lt hw hb hz1 3 (.string KB))).finish hP.lt (fun W _ _ => ValIs_leaf _ _ _ _ _ _))
  rw [if_neg (by rw [hch]; exact c4)] at hhd
  by_cases c5 : ch = 91
  · subst c5
    have hum : ∃ m', m = m' + 1 := ⟨m - 1, by omega⟩
    obtain ⟨m', hm'⟩ := hum
    have cI : ∀ wx, Psr wx b s u → Below w0.heap.size w0 wx → _ := fun wx h1 h2 => jp_items w0 b s m' (hV m' hm') hs hb d u (by omega) (by omega) hch hd wx h1 h2
    rw [hch] at cN
    clear hhd hpn hpt hpf c1 c2 c3 c4
    cases hH : hA s.data.toList u d with
    | err a x =>
      clear hch hV
      go_enter Tryz.func40, Tryz.ntmps40
      go_wp2_with fail
      refine cN.mono ?_
      rintro e w1 ⟨rfl, P1, K1⟩
      have c1a := P1.c1
      have hz1 : w.heap.size + 1 ≤ w1.heap.size := by have := K1.size; rw [World.size_alloc] at this; exact this
      have G2 : VaG w0 w b s u w1.heap.size #[.int .i64 0, .bool false, .int .i64 0, .string ⟨#[]⟩, .slice none 0 0, .slice none 0 0, .int .i64 (u : Int)] (w1.alloc (.cells #[.int .i64 0, .bool false, .int .i64 0, .string ⟨#[]⟩, .slice none 0 0, .slice none 0 0, .int .i64 (u : Int)] 25)) := VaG.start hP.lt hw hb K1 P1 _
      clear K1 P1
      have cWn := jp_word_no b s ⟨#[110, 117, 108, 108]⟩ u (w1.alloc (.cells #[.int .i64 0, .bool false, .int .i64 0, .string ⟨#[]⟩, .slice none 0 0, .slice none 0 0, .int .i64 (u : Int)] 25)) G2.psr huz (by exact pnn)
      go_wp2_with fail
      refine cWn.mono ?_
      rintro e w3 ⟨rfl, P3, b3⟩
      have G3 : VaG w0 w b s u w1.heap.size #[.int .i64 0, .bool false, .int .i64 0, .string ⟨#[]⟩, .slice none 0 0, .slice none 0 0, .int .i64 (u : Int)] w3 := G2.next (Pj.of b3) P3 hP.lt hb
      clear b3 P3 cWn G2
      have cWt := jp_word_no b s ⟨#[116, 114, 117, 101]⟩ u w3 G3.psr huz (by exact pnt)
      go_wp2_with fail
      refine cWt.mono ?_
      rintro e w4 ⟨rfl, P4, b4⟩
      have G4 : VaG w0 w b s u w1.heap.size #[.int .i64 0, .bool false, .int .i64 0, .string ⟨#[]⟩, .slice none 0 0, .slice none 0 0, .int .i64 (u : Int)] w4 := G3.next (Pj.of b4) P4 hP.lt hb
      clear b4 P4 cWt G3
      have cWf := jp_word_no b s ⟨#[102, 97, 108, 115, 101]⟩ u w4 G4.psr huz (by exact pnf)
      go_wp2_with fail
      refine cWf.mono ?_
      rintro e w5 ⟨rfl, P5, b5⟩
      have G5 : VaG w0 w b s u w1.heap.size #[.int .i64 0, .bool false, .int .i64 0, .string ⟨#[]⟩, .slice none 0 0, .slice none 0 0, .int .i64 (u : Int)] w5 := G4.next (Pj.of b5) P5 hP.lt hb
      clear b5 P5 cWf G4
      have cS := cI w5 G5.psr G5.bel
      rw [hH] at cS
      simp only [OutI] at cS
      clear G5
      go_wp2_with fail
      refine cS.mono ?_
      rintro e w6 ⟨rfl, hB⟩
      go_wp2
      exact ⟨rfl, rfl, hB⟩
    | ok v j =>
      have hdd : d ≤ 100 := by
        rcases Nat.lt_or_ge 100 d with h | h
        · exfalso
          rw [hA_eq _ _ _ hul, hch, if_neg (by decide), if_neg (by decide), if_neg (by decide), if_neg (by decide), if_pos (.inl rfl), if_pos h] at hH
          cases hH
        · exact h
      have hH' := hH
      rw [hA_arr _ _ _ hul hch hdd] at hH'
      obtain ⟨st, rfl⟩ := arr_form hH'
      clear hH' hch hV
      go_enter Tryz.func40, Tryz.ntmps40
      go_wp2_with fail
      refine cN.mono ?_
      rintro e w1 ⟨rfl, P1, K1⟩
      have c1a := P1.c1
      have hz1 : w.heap.size + 1 ≤ w1.heap.size := by have := K1.size; rw [World.size_alloc] at this; exact this
      have G2 : VaG w0 w b s u w1.heap.size #[.int .i64 0, .bool false, .int .i64 0, .string ⟨#[]⟩, .slice none 0 0, .slice none 0 0, .int .i64 (u : Int)] (w1.alloc (.cells #[.int .i64 0, .bool false, .int .i64 0, .string ⟨#[]⟩, .slice none 0 0, .slice none 0 0, .int .i64 (u : Int)] 25)) := VaG.start hP.lt hw hb K1 P1 _
      clear K1 P1
      have cWn := jp_word_no b s ⟨#[110, 117, 108, 108]⟩ u (w1.alloc (.cells #[.int .i64 0, .bool false, .int .i64 0, .string ⟨#[]⟩, .slice none 0 0, .slice none 0 0, .int .i64 (u : Int)] 25)) G2.psr huz (by exact pnn)
      go_wp2_with fail
      refine cWn.mono ?_
      rintro e w3 ⟨rfl, P3, b3⟩
      have G3 : VaG w0 w b s u w1.heap.size #[.int .i64 0, .bool false, .int .i64 0, .string ⟨#[]⟩, .slice none 0 0, .slice none 0 0, .int .i64 (u : Int)] w3 := G2.next (Pj.of b3) P3 hP.lt hb
      clear b3 P3 cWn G2
      have cWt := jp_word_no b s ⟨#[116, 114, 117, 101]⟩ u w3 G3.psr huz (by exact pnt)
      go_wp2_with fail
      refine cWt.mono ?_
      rintro e w4 ⟨rfl, P4, b4⟩
      have G4 : VaG w0 w b s u w1.heap.size #[.int .i64 0, .bool false, .int .i64 0, .string ⟨#[]⟩, .slice none 0 0, .slice none 0 0, .int .i64 (u : Int)] w4 := G3.next (Pj.of b4) P4 hP.lt hb
      clear b4 P4 cWt G3
      have cWf := jp_word_no b s ⟨#[102, 97, 108, 115, 101]⟩ u w4 G4.psr huz (by exact pnf)
      go_wp2_with fail
      refine cWf.mono ?_
      rintro e w5 ⟨rfl, P5, b5⟩
      have G5 : VaG w0 w b s u w1.heap.size #[.int .i64 0, .bool false, .int .i64 0, .string ⟨#[]⟩, .slice none 0 0, .slice none 0 0, .int .i64 (u : Int)] w5 := G4.next (Pj.of b5) P5 hP.lt hb
      clear b5 P5 cWf G4
      have cS := cI w5 G5.psr G5.bel
      rw [hH] at cS
      simp only [OutI, ValD.items] at cS
      have hz5 := G5.part.size
      have hb5 := G5.box.lt
      go_wp2_with fail
      refine cS.mono ?_
      rintro e w6 ⟨⟨p, c, rfl, hrow⟩, P6, K6⟩
      have G6 := G5.next K6 P6 hP.lt hb
      have HROW := Lib.hid hrow
      clear G5 K6 P6 hrow
      obtain ⟨⟨r0, r1, r2, r3, r4, r5, r6⟩, y0, y1, y2, y3, y4, y5, y6⟩ := G6.box.seven
      obtain ⟨⟨x0, x1, x2, x3, x4, x5, x6⟩, k0, k1, k2, k3, k4, k5, k6⟩ := G6.res.seven
      have hvn : w1.heap.size ≠ w.heap.size := by omega
      have hnv : w.heap.size ≠ w1.heap.size := by omega
      have HG := Lib.hid G6
      clear G6
      go_wp2
      exact bodyPost_ret (v := .agg #[.int .i64 4, .bool false, .int .i64 0, .string ⟨#[]⟩, .slice p st.length c, .slice none 0 0, .int .i64 (u : Int)]) (by simp [results, Tryz.results40, go_sem, jset_same, x0, x1, x2, x3, x4, x5, x6]) rfl ((show VaG w0 w b s _ w1.heap.size #[.int .i64 4, .bool false, .int .i64 0, .string ⟨#[]⟩, .slice p st.length c, .slice none 0 0, .int .i64 (u : Int)] _ from ((HG.out.set hP.lt hw hb hz1 0 (.int .i64 4)).set hP.lt hw hb hz1 4 (.slice p st.length c))).finish hP.lt (ValIs_listI (vb := w1.heap.size) HROW.out (by omega) (fun k hk => by rw [Below.heap_setCell _ _ _ _ hk, Below.heap_setCell _ _ _ _ hk]) (by omega)))
  by_cases c6 : ch = 123
  · subst c6
    have hum : ∃ m', m = m' + 1 := ⟨m - 1, by omega⟩
    obtain ⟨m', hm'⟩ := hum
    have cI : ∀ wx, Psr wx b s u → Below w0.heap.size w0 wx → _ := fun wx h1 h2 => jp_members w0 b s m' (hV m' hm') hs hT hb d u (by omega) (by omega) hch hd wx h1 h2
    rw [hch] at cN
    clear hhd hpn hpt hpf c1 c2 c3 c4 c5
    cases hH : hA s.data.toList u d with
    | err a x =>
      clear hch hV
      go_enter Tryz.func40, Tryz.ntmps40
      go_wp2_with fail
      refine cN.mono ?_
      rintro e w1 ⟨rfl, P1, K1⟩
      have c1a := P1.c1
      have hz1 : w.heap.size + 1 ≤ w1.heap.size := by have := K1.size; rw [World.size_alloc] at this; exact this
      have G2 : VaG w0 w b s u w1.heap.size #[.int .i64 0, .bool false, .int .i64 0, .string ⟨#[]⟩, .slice none 0 0, .slice none 0 0, .int .i64 (u : Int)] (w1.alloc (.cells #[.int .i64 0, .bool false, .int .i64 0, .string ⟨#[]⟩, .slice none 0 0, .slice none 0 0, .int .i64 (u : Int)] 25)) := VaG.start hP.lt hw hb K1 P1 _
      clear K1 P1
      have cWn := jp_word_no b s ⟨#[110, 117, 108, 108]⟩ u (w1.alloc (.cells #[.int .i64 0, .bool false, .int .i64 0, .string ⟨#[]⟩, .slice none 0 0, .slice none 0 0, .int .i64 (u : Int)] 25)) G2.psr huz (by exact pnn)
      go_wp2_with fail
      refine cWn.mono ?_
      rintro e w3 ⟨rfl, P3, b3⟩
      have G3 : VaG w0 w b s u w1.heap.size #[.int .i64 0, .bool false, .int .i64 0, .string ⟨#[]⟩, .slice none 0 0, .slice none 0 0, .int .i64 (u : Int)] w3 := G2.next (Pj.of b3) P3 hP.lt hb
      clear b3 P3 cWn G2
      have cWt := jp_word_no b s ⟨#[116, 114, 117, 101]⟩ u w3 G3.psr huz (by exact pnt)
      go_wp2_with fail
      refine cWt.mono ?_
      rintro e w4 ⟨rfl, P4, b4⟩
      have G4 : VaG w0 w b s u w1.heap.size #[.int .i64 0, .bool false, .int .i64 0, .string ⟨#[]⟩, .slice none 0 0, .slice none 0 0, .int .i64 (u : Int)] w4 := G3.next (Pj.of b4) P4 hP.lt hb
      clear b4 P4 cWt G3
      have cWf := jp_word_no b s ⟨#[102, 97, 108, 115, 101]⟩ u w4 G4.psr huz (by exact pnf)
      go_wp2_with fail
      refine cWf.mono ?_
      rintro e w5 ⟨rfl, P5, b5⟩
      have G5 : VaG w0 w b s u w1.heap.size #[.int .i64 0, .bool false, .int .i64 0, .string ⟨#[]⟩, .slice none 0 0, .slice none 0 0, .int .i64 (u : Int)] w5 := G4.next (Pj.of b5) P5 hP.lt hb
      clear b5 P5 cWf G4
      have cS := cI w5 G5.psr G5.bel
      rw [hH] at cS
      simp only [OutM] at cS
      clear G5
      go_wp2_with fail
      refine cS.mono ?_
      rintro e w6 ⟨rfl, hB⟩
      go_wp2
      exact ⟨rfl, rfl, hB⟩
    | ok v j =>
      have hdd : d ≤ 100 := by
        rcases Nat.lt_or_ge 100 d with h | h
        · exfalso
          rw [hA_eq _ _ _ hul, hch, if_neg (by decide), if_neg (by decide), if_neg (by decide), if_neg (by decide), if_pos (.inr rfl), if_pos h] at hH
          cases hH
        · exact h
      have hH' := hH
      rw [hA_obj _ _ _ hul hch hdd] at hH'
      obtain ⟨st, rfl⟩ := obj_form hH'
      clear hH' hch hV
      go_enter Tryz.func40, Tryz.ntmps40
      go_wp2_with fail
      refine cN.mono ?_
      rintro e w1 ⟨rfl, P1, K1⟩
      have c1a := P1.c1
      have hz1 : w.heap.size + 1 ≤ w1.heap.size := by have := K1.size; rw [World.size_alloc] at this; exact this
      have G2 : VaG w0 w b s u w1.heap.size #[.int .i64 0, .bool false, .int .i64 0, .string ⟨#[]⟩, .slice none 0 0, .slice none 0 0, .int .i64 (u : Int)] (w1.alloc (.cells #[.int .i64 0, .bool false, .int .i64 0, .string ⟨#[]⟩, .slice none 0 0, .slice none 0 0, .int .i64 (u : Int)] 25)) := VaG.start hP.lt hw hb K1 P1 _
      clear K1 P1
      have cWn := jp_word_no b s ⟨#[110, 117, 108, 108]⟩ u (w1.alloc (.cells #[.int .i64 0, .bool false, .int .i64 0, .string ⟨#[]⟩, .slice none 0 0, .slice none 0 0, .int .i64 (u : Int)] 25)) G2.psr huz (by exact pnn)
      go_wp2_with fail
      refine cWn.mono ?_
      rintro e w3 ⟨rfl, P3, b3⟩
      have G3 : VaG w0 w b s u w1.heap.size #[.int .i64 0, .bool false, .int .i64 0, .string ⟨#[]⟩, .slice none 0 0, .slice none 0 0, .int .i64 (u : Int)] w3 := G2.next (Pj.of b3) P3 hP.lt hb
      clear b3 P3 cWn G2
      have cWt := jp_word_no b s ⟨#[116, 114, 117, 101]⟩ u w3 G3.psr huz (by exact pnt)
      go_wp2_with fail
      refine cWt.mono ?_
      rintro e w4 ⟨rfl, P4, b4⟩
      have G4 : VaG w0 w b s u w1.heap.size #[.int .i64 0, .bool false, .int .i64 0, .string ⟨#[]⟩, .slice none 0 0, .slice none 0 0, .int .i64 (u : Int)] w4 := G3.next (Pj.of b4) P4 hP.lt hb
      clear b4 P4 cWt G3
      have cWf := jp_word_no b s ⟨#[102, 97, 108, 115, 101]⟩ u w4 G4.psr huz (by exact pnf)
      go_wp2_with fail
      refine cWf.mono ?_
      rintro e w5 ⟨rfl, P5, b5⟩
      have G5 : VaG w0 w b s u w1.heap.size #[.int .i64 0, .bool false, .int .i64 0, .string ⟨#[]⟩, .slice none 0 0, .slice none 0 0, .int .i64 (u : Int)] w5 := G4.next (Pj.of b5) P5 hP.lt hb
      clear b5 P5 cWf G4
      have cS := cI w5 G5.psr G5.bel
      rw [hH] at cS
      simp only [OutM, ValD.mems] at cS
      have hz5 := G5.part.size
      have hb5 := G5.box.lt
      go_wp2_with fail
      refine cS.mono ?_
      rintro e w6 ⟨⟨p, c, rfl, hrow⟩, P6, K6⟩
      have G6 := G5.next K6 P6 hP.lt hb
      have HROW := Lib.hid hrow
      clear G5 K6 P6 hrow
      obtain ⟨⟨r0, r1, r2, r3, r4, r5, r6⟩, y0, y1, y2, y3, y4, y5, y6⟩ := G6.box.seven
      obtain ⟨⟨x0, x1, x2, x3, x4, x5, x6⟩, k0, k1, k2, k3, k4, k5, k6⟩ := G6.res.seven
      have hvn : w1.heap.size ≠ w.heap.size := by omega
      have hnv : w.heap.size ≠ w1.heap.size := by omega
      have HG := Lib.hid G6
      clear G6
      go_wp2
      exact bodyPost_ret (v := .agg #[.int .i64 5, .bool false, .int .i64 0, .string ⟨#[]⟩, .slice none 0 0, .slice p st.length c, .int .i64 (u : Int)]) (by simp [results, Tryz.results40, go_sem, jset_same, x0, x1, x2, x3, x4, x5, x6]) rfl ((show VaG w0 w b s _ w1.heap.size #[.int .i64 5, .bool false, .int .i64 0, .string ⟨#[]⟩, .slice none 0 0, .slice p st.length c, .int .i64 (u : Int)] _ from ((HG.out.set hP.lt hw hb hz1 0 (.int .i64 5)).set hP.lt hw hb hz1 5 (.slice p st.length c))).finish hP.lt (ValIs_listM (vb := w1.heap.size) HROW.out (by omega) (fun k hk => by rw [Below.heap_setCell _ _ _ _ hk, Below.heap_setCell _ _ _ _ hk]) (by omega)))
  rw [if_neg (by rw [hch]; rintro (e | e); exact c5 e; exact c6 e)] at hhd
  have hze : ∀ a : UInt8, ch ≠ a → ¬ (ch.toNat : Int) = (a.toNat : Int) := fun a h e => h (UInt8.toNat_inj.1 (by omega))
  have hz34 := hze 34 c4
  have hz91 := hze 91 c5
  have hz123 := hze 123 c6
  have hz45 := hze 45
  have hb34 : ((ch.toNat : Int) == 34) = false := by simpa using hz34
  have hb91 : ((ch.toNat : Int) == 91) = false := by simpa using hz91
  have hb123 : ((ch.toNat : Int) == 123) = false := by simpa using hz123
  clear hze hz34 hz91 hz123
  by_cases cn : ch = 45 ∨ (48 ≤ ch.toNat ∧ ch.toNat ≤ 57)
  · have hnh : s.data.toList.getD u 0 = 45 ∨ (48 ≤ (s.data.toList.getD u 0).toNat ∧ (s.data.toList.getD u 0).toNat ≤ 57) := by rw [hch]; exact cn
    have hng := num_head s.data.toList u hul hnh
    rw [if_pos hnh, num_to] at hhd
    rw [hhd]
    rw [hch] at cN
    have hcn : ch = 45 ∨ (¬ ch = 45 ∧ (48 : Int) ≤ (ch.toNat : Int) ∧ (ch.toNat : Int) ≤ 57) := by
      rcases Decidable.em (ch = 45) with h | h
      · exact .inl h
      · exact .inr ⟨h, by rcases cn with e | e; exact absurd e h; omega, by rcases cn with e | e; exact absurd e h; omega⟩
    cases hnj : jnumL ((s.data.toList.drop u).takeWhile numP) with
    | none =>
      simp only
      rcases hcn with rfl | ⟨h45, hz48, hz57⟩
      · clear hhd hpn hpt hpf hch hV c1 c2 c3 c4 c5 c6 cn hb34 hb91 hb123 hz45
        go_enter Tryz.func40, Tryz.ntmps40
        go_wp2_with fail
        refine cN.mono ?_
        rintro e w1 ⟨rfl, P1, K1⟩
        have c1a := P1.c1
        have hz1 : w.heap.size + 1 ≤ w1.heap.size := by have := K1.size; rw [World.size_alloc] at this; exact this
        have G2 : VaG w0 w b s u w1.heap.size #[.int .i64 0, .bool false, .int .i64 0, .string ⟨#[]⟩, .slice none 0 0, .slice none 0 0, .int .i64 (u : Int)] (w1.alloc (.cells #[.int .i64 0, .bool false, .int .i64 0, .string ⟨#[]⟩, .slice none 0 0, .slice none 0 0, .int .i64 (u : Int)] 25)) := VaG.start hP.lt hw hb K1 P1 _
        clear K1 P1
        have cWn := jp_word_no b s ⟨#[110, 117, 108, 108]⟩ u (w1.alloc (.cells #[.int .i64 0, .bool false, .int .i64 0, .string ⟨#[]⟩, .slice none 0 0, .slice none 0 0, .int .i64 (u : Int)] 25)) G2.psr huz (by exact pnn)
        go_wp2_with fail
        refine cWn.mono ?_
        rintro e w3 ⟨rfl, P3, b3⟩
        have G3 : VaG w0 w b s u w1.heap.size #[.int .i64 0, .bool false, .int .i64 0, .string ⟨#[]⟩, .slice none 0 0, .slice none 0 0, .int .i64 (u : Int)] w3 := G2.next (Pj.of b3) P3 hP.lt hb
        clear b3 P3 cWn G2
        have cWt := jp_word_no b s ⟨#[116, 114, 117, 101]⟩ u w3 G3.psr huz (by exact pnt)
        go_wp2_with fail
        refine cWt.mono ?_
        rintro e w4 ⟨rfl, P4, b4⟩
        have G4 : VaG w0 w b s u w1.heap.size #[.int .i64 0, .bool false, .int .i64 0, .string ⟨#[]⟩, .slice none 0 0, .slice none 0 0, .int .i64 (u : Int)] w4 := G3.next (Pj.of b4) P4 hP.lt hb
        clear b4 P4 cWt G3
        have cWf := jp_word_no b s ⟨#[102, 97, 108, 115, 101]⟩ u w4 G4.psr huz (by exact pnf)
        go_wp2_with fail
        refine cWf.mono ?_
        rintro e w5 ⟨rfl, P5, b5⟩
        have G5 : VaG w0 w b s u w1.heap.size #[.int .i64 0, .bool false, .int .i64 0, .string ⟨#[]⟩, .slice none 0 0, .slice none 0 0, .int .i64 (u : Int)] w5 := G4.next (Pj.of b5) P5 hP.lt hb
        clear b5 P5 cWf G4
        have cS := jp_number_bad b s u w5 G5.psr huz hs (TabV_below hT G5.bel) hnh hnj hng
        have HL := Lib.hid G5.bel
        clear G5
        go_wp2_with fail
        refine cS.mono ?_
        rintro e w6 ⟨rfl, K6⟩
        go_wp2
        exact ⟨rfl, rfl, pb_below HL.out K6 hb⟩
      · have hb45 : ((ch.toNat : Int) == 45) = false := by simpa using hz45 h45
        clear hhd hpn hpt hpf hch hV c1 c2 c3 c4 c5 c6 cn hz45 h45
        obtain ⟨z, hzx⟩ : ∃ z : Int, (ch.toNat : Int) = z := ⟨_, rfl⟩
        rw [hzx] at *
        clear hzx
        go_enter Tryz.func40, Tryz.ntmps40
        go_wp2_with fail
        refine cN.mono ?_
        rintro e w1 ⟨rfl, P1, K1⟩
        have c1a := P1.c1
        have hz1 : w.heap.size + 1 ≤ w1.heap.size := by have := K1.size; rw [World.size_alloc] at this; exact this
        have G2 : VaG w0 w b s u w1.heap.size #[.int .i64 0, .bool false, .int .i64 0, .string ⟨#[]⟩, .slice none 0 0, .slice none 0 0, .int .i64 (u : Int)] (w1.alloc (.cells #[.int .i64 0, .bool false, .int .i64 0, .string ⟨#[]⟩, .slice none 0 0, .slice none 0 0, .int .i64 (u : Int)] 25)) := VaG.start hP.lt hw hb K1 P1 _
        clear K1 P1
        have cWn := jp_word_no b s ⟨#[110, 117, 108, 108]⟩ u (w1.alloc (.cells #[.int .i64 0, .bool false, .int .i64 0, .string ⟨#[]⟩, .slice none 0 0, .slice none 0 0, .int .i64 (u : Int)] 25)) G2.psr huz (by exact pnn)
        go_wp2_with fail
        refine cWn.mono ?_
        rintro e w3 ⟨rfl, P3, b3⟩
        have G3 : VaG w0 w b s u w1.heap.size #[.int .i64 0, .bool false, .int .i64 0, .string ⟨#[]⟩, .slice none 0 0, .slice none 0 0, .int .i64 (u : Int)] w3 := G2.next (Pj.of b3) P3 hP.lt hb
        clear b3 P3 cWn G2
        have cWt := jp_word_no b s ⟨#[116, 114, 117, 101]⟩ u w3 G3.psr huz (by exact pnt)
        go_wp2_with fail
        refine cWt.mono ?_
        rintro e w4 ⟨rfl, P4, b4⟩
        have G4 : VaG w0 w b s u w1.heap.size #[.int .i64 0, .bool false, .int .i64 0, .string ⟨#[]⟩, .slice none 0 0, .slice none 0 0, .int .i64 (u : Int)] w4 := G3.next (Pj.of b4) P4 hP.lt hb
        clear b4 P4 cWt G3
        have cWf := jp_word_no b s ⟨#[102, 97, 108, 115, 101]⟩ u w4 G4.psr huz (by exact pnf)
        go_wp2_with fail
        refine cWf.mono ?_
        rintro e w5 ⟨rfl, P5, b5⟩
        have G5 : VaG w0 w b s u w1.heap.size #[.int .i64 0, .bool false, .int .i64 0, .string ⟨#[]⟩, .slice none 0 0, .slice none 0 0, .int .i64 (u : Int)] w5 := G4.next (Pj.of b5) P5 hP.lt hb
        clear b5 P5 cWf G4
        have cS := jp_number_bad b s u w5 G5.psr huz hs (TabV_below hT G5.bel) hnh hnj hng
        have HL := Lib.hid G5.bel
        clear G5
        go_wp2_with fail
        refine cS.mono ?_
        rintro e w6 ⟨rfl, K6⟩
        go_wp2
        exact ⟨rfl, rfl, pb_below HL.out K6 hb⟩
    | some n =>
      simp only
      rcases hcn with rfl | ⟨h45, hz48, hz57⟩
      · clear hhd hpn hpt hpf hch hV c1 c2 c3 c4 c5 c6 cn hb34 hb91 hb123 hz45
        go_enter Tryz.func40, Tryz.ntmps40
        go_wp2_with fail
        refine cN.mono ?_
        rintro e w1 ⟨rfl, P1, K1⟩
        have c1a := P1.c1
        have hz1 : w.heap.size + 1 ≤ w1.heap.size := by have := K1.size; rw [World.size_alloc] at this; exact this
        have G2 : VaG w0 w b s u w1.heap.size #[.int .i64 0, .bool false, .int .i64 0, .string ⟨#[]⟩, .slice none 0 0, .slice none 0 0, .int .i64 (u : Int)] (w1.alloc (.cells #[.int .i64 0, .bool false, .int .i64 0, .string ⟨#[]⟩, .slice none 0 0, .slice none 0 0, .int .i64 (u : Int)] 25)) := VaG.start hP.lt hw hb K1 P1 _
        clear K1 P1
        have cWn := jp_word_no b s ⟨#[110, 117, 108, 108]⟩ u (w1.alloc (.cells #[.int .i64 0, .bool false, .int .i64 0, .string ⟨#[]⟩, .slice none 0 0, .slice none 0 0, .int .i64 (u : Int)] 25)) G2.psr huz (by exact pnn)
        go_wp2_with fail
        refine cWn.mono ?_
        rintro e w3 ⟨rfl, P3, b3⟩
        have G3 : VaG w0 w b s u w1.heap.size #[.int .i64 0, .bool false, .int .i64 0, .string ⟨#[]⟩, .slice none 0 0, .slice none 0 0, .int .i64 (u : Int)] w3 := G2.next (Pj.of b3) P3 hP.lt hb
        clear b3 P3 cWn G2
        have cWt := jp_word_no b s ⟨#[116, 114, 117, 101]⟩ u w3 G3.psr huz (by exact pnt)
        go_wp2_with fail
        refine cWt.mono ?_
        rintro e w4 ⟨rfl, P4, b4⟩
        have G4 : VaG w0 w b s u w1.heap.size #[.int .i64 0, .bool false, .int .i64 0, .string ⟨#[]⟩, .slice none 0 0, .slice none 0 0, .int .i64 (u : Int)] w4 := G3.next (Pj.of b4) P4 hP.lt hb
        clear b4 P4 cWt G3
        have cWf := jp_word_no b s ⟨#[102, 97, 108, 115, 101]⟩ u w4 G4.psr huz (by exact pnf)
        go_wp2_with fail
        refine cWf.mono ?_
        rintro e w5 ⟨rfl, P5, b5⟩
        have G5 : VaG w0 w b s u w1.heap.size #[.int .i64 0, .bool false, .int .i64 0, .string ⟨#[]⟩, .slice none 0 0, .slice none 0 0, .int .i64 (u : Int)] w5 := G4.next (Pj.of b5) P5 hP.lt hb
        clear b5 P5 cWf G4
        have cS := jp_number_ok b s u n w5 G5.psr huz hs hnh hnj hng
        go_wp2_with fail
        refine cS.mono ?_
        rintro e w6 ⟨rfl, P6, K6⟩
        have G6 := G5.next K6 P6 hP.lt hb
        clear G5 K6 P6
        obtain ⟨⟨r0, r1, r2, r3, r4, r5, r6⟩, y0, y1, y2, y3, y4, y5, y6⟩ := G6.box.seven
        obtain ⟨⟨x0, x1, x2, x3, x4, x5, x6⟩, k0, k1, k2, k3, k4, k5, k6⟩ := G6.res.seven
        have hvn : w1.heap.size ≠ w.heap.size := by omega
        have hnv : w.heap.size ≠ w1.heap.size := by omega
        have HG := Lib.hid G6
        clear G6
        go_wp2
        exact bodyPost_ret (v := .agg #[.int .i64 2, .bool false, .int .i64 n, .string ⟨#[]⟩, .slice none 0 0, .slice none 0 0, .int .i64 (u : Int)]) (by simp [results, Tryz.results40, go_sem, jset_same, x0, x1, x2, x3, x4, x5, x6]) rfl ((show VaG w0 w b s _ w1.heap.size #[.int .i64 2, .bool false, .int .i64 n, .string ⟨#[]⟩, .slice none 0 0, .slice none 0 0, .int .i64 (u : Int)] _ from ((HG.out.set hP.lt hw hb hz1 0 (.int .i64 2)).set hP.lt hw hb hz1 2 (.int .i64 n))).finish hP.lt (fun W _ _ => ValIs_leaf _ _ _ _ _ _))
      · have hb45 : ((ch.toNat : Int) == 45) = false := by simpa using hz45 h45
        clear hhd hpn hpt hpf hch hV c1 c2 c3 c4 c5 c6 cn hz45 h45
        obtain ⟨z, hzx⟩ : ∃ z : Int, (ch.toNat : Int) = z := ⟨_, rfl⟩
        rw [hzx] at *
        clear hzx
        go_enter Tryz.func40, Tryz.ntmps40
        go_wp2_with fail
        refine cN.mono ?_
        rintro e w1 ⟨rfl, P1, K1⟩
        have c1a := P1.c1
        have hz1 : w.heap.size + 1 ≤ w1.heap.size := by have := K1.size; rw [World.size_alloc] at this; exact this
        have G2 : VaG w0 w b s u w1.heap.size #[.int .i64 0, .bool false, .int .i64 0, .string ⟨#[]⟩, .slice none 0 0, .slice none 0 0, .int .i64 (u : Int)] (w1.alloc (.cells #[.int .i64 0, .bool false, .int .i64 0, .string ⟨#[]⟩, .slice none 0 0, .slice none 0 0, .int .i64 (u : Int)] 25)) := VaG.start hP.lt hw hb K1 P1 _
        clear K1 P1
        have cWn := jp_word_no b s ⟨#[110, 117, 108, 108]⟩ u (w1.alloc (.cells #[.int .i64 0, .bool false, .int .i64 0, .string ⟨#[]⟩, .slice none 0 0, .slice none 0 0, .int .i64 (u : Int)] 25)) G2.psr huz (by exact pnn)
        go_wp2_with fail
        refine cWn.mono ?_
        rintro e w3 ⟨rfl, P3, b3⟩
        have G3 : VaG w0 w b s u w1.heap.size #[.int .i64 0, .bool false, .int .i64 0, .string ⟨#[]⟩, .slice none 0 0, .slice none 0 0, .int .i64 (u : Int)] w3 := G2.next (Pj.of b3) P3 hP.lt hb
        clear b3 P3 cWn G2
        have cWt := jp_word_no b s ⟨#[116, 114, 117, 101]⟩ u w3 G3.psr huz (by exact pnt)
        go_wp2_with fail
        refine cWt.mono ?_
        rintro e w4 ⟨rfl, P4, b4⟩
        have G4 : VaG w0 w b s u w1.heap.size #[.int .i64 0, .bool false, .int .i64 0, .string ⟨#[]⟩, .slice none 0 0, .slice none 0 0, .int .i64 (u : Int)] w4 := G3.next (Pj.of b4) P4 hP.lt hb
        clear b4 P4 cWt G3
        have cWf := jp_word_no b s ⟨#[102, 97, 108, 115, 101]⟩ u w4 G4.psr huz (by exact pnf)
        go_wp2_with fail
        refine cWf.mono ?_
        rintro e w5 ⟨rfl, P5, b5⟩
        have G5 : VaG w0 w b s u w1.heap.size #[.int .i64 0, .bool false, .int .i64 0, .string ⟨#[]⟩, .slice none 0 0, .slice none 0 0, .int .i64 (u : Int)] w5 := G4.next (Pj.of b5) P5 hP.lt hb
        clear b5 P5 cWf G4
        have cS := jp_number_ok b s u n w5 G5.psr huz hs hnh hnj hng
        go_wp2_with fail
        refine cS.mono ?_
        rintro e w6 ⟨rfl, P6, K6⟩
        have G6 := G5.next K6 P6 hP.lt hb
        clear G5 K6 P6
        obtain ⟨⟨r0, r1, r2, r3, r4, r5, r6⟩, y0, y1, y2, y3, y4, y5, y6⟩ := G6.box.seven
        obtain ⟨⟨x0, x1, x2, x3, x4, x5, x6⟩, k0, k1, k2, k3, k4, k5, k6⟩ := G6.res.seven
        have hvn : w1.heap.size ≠ w.heap.size := by omega
        have hnv : w.heap.size ≠ w1.heap.size := by omega
        have HG := Lib.hid G6
        clear G6
        go_wp2
        exact bodyPost_ret (v := .agg #[.int .i64 2, .bool false, .int .i64 n, .string ⟨#[]⟩, .slice none 0 0, .slice none 0 0, .int .i64 (u : Int)]) (by simp [results, Tryz.results40, go_sem, jset_same, x0, x1, x2, x3, x4, x5, x6]) rfl ((show VaG w0 w b s _ w1.heap.size #[.int .i64 2, .bool false, .int .i64 n, .string ⟨#[]⟩, .slice none 0 0, .slice none 0 0, .int .i64 (u : Int)] _ from ((HG.out.set hP.lt hw hb hz1 0 (.int .i64 2)).set hP.lt hw hb hz1 2 (.int .i64 n))).finish hP.lt (fun W _ _ => ValIs_leaf _ _ _ _ _ _))
  · rw [if_neg (by rw [hch]; exact cn)] at hhd
    rw [hhd]
    rw [hch] at cN
    have hb45 : ((ch.toNat : Int) == 45) = false := by simpa using hz45 (fun e => cn (.inl e))
    have hzz : (ch.toNat : Int) < 48 ∨ (¬ (ch.toNat : Int) < 48 ∧ 57 < (ch.toNat : Int)) := by
      rcases Nat.lt_or_ge ch.toNat 48 with h | h
      · exact .inl (by omega)
      · exact .inr ⟨by omega, by have : ¬ ch.toNat ≤ 57 := fun e => cn (.inr ⟨h, e⟩); omega⟩
    clear hhd hpn hpt hpf hch hV c1 c2 c3 c4 c5 c6 cn hz45
    obtain ⟨z, hzx⟩ : ∃ z : Int, (ch.toNat : Int) = z := ⟨_, rfl⟩
    rw [hzx] at *
    clear hzx
    rcases hzz with hz1 | ⟨hz2, hz3⟩
    · skip
      go_enter Tryz.func40, Tryz.ntmps40
      go_wp2_with fail
      refine cN.mono ?_
      rintro e w1 ⟨rfl, P1, K1⟩
      have c1a := P1.c1
      have hz1 : w.heap.size + 1 ≤ w1.heap.size := by have := K1.size; rw [World.size_alloc] at this; exact this
      have G2 : VaG w0 w b s u w1.heap.size #[.int .i64 0, .bool false, .int .i64 0, .string ⟨#[]⟩, .slice none 0 0, .slice none 0 0, .int .i64 (u : Int)] (w1.alloc (.cells #[.int .i64 0, .bool false, .int .i64 0, .string ⟨#[]⟩, .slice none 0 0, .slice none 0 0, .int .i64 (u : Int)] 25)) := VaG.start hP.lt hw hb K1 P1 _
      clear K1 P1
      have cWn := jp_word_no b s ⟨#[110, 117, 108, 108]⟩ u (w1.alloc (.cells #[.int .i64 0, .bool false, .int .i64 0, .string ⟨#[]⟩, .slice none 0 0, .slice none 0 0, .int .i64 (u : Int)] 25)) G2.psr huz (by exact pnn)
      go_wp2_with fail
      refine cWn.mono ?_
      rintro e w3 ⟨rfl, P3, b3⟩
      have G3 : VaG w0 w b s u w1.heap.size #[.int .i64 0, .bool false, .int .i64 0, .string ⟨#[]⟩, .slice none 0 0, .slice none 0 0, .int .i64 (u : Int)] w3 := G2.next (Pj.of b3) P3 hP.lt hb
      clear b3 P3 cWn G2
      have cWt := jp_word_no b s ⟨#[116, 114, 117, 101]⟩ u w3 G3.psr huz (by exact pnt)
      go_wp2_with fail
      refine cWt.mono ?_
      rintro e w4 ⟨rfl, P4, b4⟩
      have G4 : VaG w0 w b s u w1.heap.size #[.int .i64 0, .bool false, .int .i64 0, .string ⟨#[]⟩, .slice none 0 0, .slice none 0 0, .int .i64 (u : Int)] w4 := G3.next (Pj.of b4) P4 hP.lt hb
      clear b4 P4 cWt G3
      have cWf := jp_word_no b s ⟨#[102, 97, 108, 115, 101]⟩ u w4 G4.psr huz (by exact pnf)
      go_wp2_with fail
      refine cWf.mono ?_
      rintro e w5 ⟨rfl, P5, b5⟩
      have G5 : VaG w0 w b s u w1.heap.size #[.int .i64 0, .bool false, .int .i64 0, .string ⟨#[]⟩, .slice none 0 0, .slice none 0 0, .int .i64 (u : Int)] w5 := G4.next (Pj.of b5) P5 hP.lt hb
      clear b5 P5 cWf G4
      have c5a := G5.psr.c1
      have HL := Lib.hid G5.bel
      clear G5
      go_wp2_with fail
      refine (cF _).mono ?_
      rintro e w6 ⟨rfl, rfl⟩
      go_wp2
      exact ⟨rfl, rfl, HL.out⟩
    · skip
      go_enter Tryz.func40, Tryz.ntmps40
      go_wp2_with fail
      refine cN.mono ?_
      rintro e w1 ⟨rfl, P1, K1⟩
      have c1a := P1.c1
      have hz1 : w.heap.size + 1 ≤ w1.heap.size := by have := K1.size; rw [World.size_alloc] at this; exact this
      have G2 : VaG w0 w b s u w1.heap.size #[.int .i64 0, .bool false, .int .i64 0, .string ⟨#[]⟩, .slice none 0 0, .slice none 0 0, .int .i64 (u : Int)] (w1.alloc (.cells #[.int .i64 0, .bool false, .int .i64 0, .string ⟨#[]⟩, .slice none 0 0, .slice none 0 0, .int .i64 (u : Int)] 25)) := VaG.start hP.lt hw hb K1 P1 _
      clear K1 P1
      have cWn := jp_word_no b s ⟨#[110, 117, 108, 108]⟩ u (w1.alloc (.cells #[.int .i64 0, .bool false, .int .i64 0, .string ⟨#[]⟩, .slice none 0 0, .slice none 0 0, .int .i64 (u : Int)] 25)) G2.psr huz (by exact pnn)
      go_wp2_with fail
      refine cWn.mono ?_
      rintro e w3 ⟨rfl, P3, b3⟩
      have G3 : VaG w0 w b s u w1.heap.size #[.int .i64 0, .bool false, .int .i64 0, .string ⟨#[]⟩, .slice none 0 0, .slice none 0 0, .int .i64 (u : Int)] w3 := G2.next (Pj.of b3) P3 hP.lt hb
      clear b3 P3 cWn G2
      have cWt := jp_word_no b s ⟨#[116, 114, 117, 101]⟩ u w3 G3.psr huz (by exact pnt)
      go_wp2_with fail
      refine cWt.mono ?_
      rintro e w4 ⟨rfl, P4, b4⟩
      have G4 : VaG w0 w b s u w1.heap.size #[.int .i64 0, .bool false, .int .i64 0, .string ⟨#[]⟩, .slice none 0 0, .slice none 0 0, .int .i64 (u : Int)] w4 := G3.next (Pj.of b4) P4 hP.lt hb
      clear b4 P4 cWt G3
      have cWf := jp_word_no b s ⟨#[102, 97, 108, 115, 101]⟩ u w4 G4.psr huz (by exact pnf)
      go_wp2_with fail
      refine cWf.mono ?_
      rintro e w5 ⟨rfl, P5, b5⟩
      have G5 : VaG w0 w b s u w1.heap.size #[.int .i64 0, .bool false, .int .i64 0, .string ⟨#[]⟩, .slice none 0 0, .slice none 0 0, .int .i64 (u : Int)] w5 := G4.next (Pj.of b5) P5 hP.lt hb
      clear b5 P5 cWf G4
      have c5a := G5.psr.c1
      have HL := Lib.hid G5.bel
      clear G5
      go_wp2_with fail
      refine (cF _).mono ?_
      rintro e w6 ⟨rfl, rfl⟩
      go_wp2
      exact ⟨rfl, rfl, HL.out⟩
theorem jp_value (w0 : World) (b : Nat) (s : ByteArray) (hs : s.size ≤ 1000000) (hT : TabV w0) (hb : w0.heap.size ≤ b) : ∀ m, JqV w0 b s m
  | 0 => jp_value_step w0 b s 0 (fun m' e => by omega) hs hT hb
  | m + 1 => jp_value_step w0 b s (m + 1) (fun m' e => by
    obtain rfl : m = m' := by omega
    exact jp_value w0 b s hs hT hb m) hs hT hb
end Go.Proofs.YtdooadalkbghgaaGreatDoor
end
