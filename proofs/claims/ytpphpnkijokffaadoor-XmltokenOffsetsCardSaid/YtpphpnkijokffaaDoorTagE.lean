/- Package xmltoken: the tag reader's endTag and startTag: what each returns and leaves. Package xmltoken: the tag reader's startTag: what it returns and leaves. -/
import Derived.Test.YtpphpnkijokffaaDoorTagA
namespace Go.Proofs.YtpphpnkijokffaaDoor
section
open Go.RowKit

def tokZs : Array Value := #[.int .i64 0, .string ⟨#[]⟩, .slice none 0 0, .bool false, .string ⟨#[]⟩, .int .i64 0]
theorem Blk.six {w : World} {b : Nat} {T : TypeId} (h : Blk w b tokZs T) : (w.cell? ⟨b, 0, none⟩ = some (.int .i64 0) ∧ w.cell? ⟨b, 1, none⟩ = some (.string ⟨#[]⟩) ∧ w.cell? ⟨b, 2, none⟩ = some (.slice none 0 0) ∧ w.cell? ⟨b, 3, none⟩ = some (.bool false) ∧ w.cell? ⟨b, 4, none⟩ = some (.string ⟨#[]⟩) ∧ w.cell? ⟨b, 5, none⟩ = some (.int .i64 0)) ∧ (w.frozen? ⟨b, 0, none⟩ = false ∧ w.frozen? ⟨b, 1, none⟩ = false ∧ w.frozen? ⟨b, 2, none⟩ = false ∧ w.frozen? ⟨b, 3, none⟩ = false ∧ w.frozen? ⟨b, 4, none⟩ = false ∧ w.frozen? ⟨b, 5, none⟩ = false) :=
  ⟨⟨(h.cell 0).trans rfl, (h.cell 1).trans rfl, (h.cell 2).trans rfl, (h.cell 3).trans rfl, (h.cell 4).trans rfl, (h.cell 5).trans rfl⟩, h.fr 0, h.fr 1, h.fr 2, h.fr 3, h.fr 4, h.fr 5⟩
/-- Six cells are stored into block b. -/
def set6 (w : World) (b : Nat) (u0 u1 u2 u3 u4 u5 : Value) : World := (((((w.setCell ⟨b, 0, none⟩ u0).setCell ⟨b, 1, none⟩ u1).setCell ⟨b, 2, none⟩ u2).setCell ⟨b, 3, none⟩ u3).setCell ⟨b, 4, none⟩ u4).setCell ⟨b, 5, none⟩ u5
theorem Cur.set6 {w : World} {p b : Nat} {s : ByteArray} {k : Int} (h : Cur w p s k) (hb : b ≠ p) (u0 u1 u2 u3 u4 u5 : Value) : Cur ((((((w.setCell ⟨b, 0, none⟩ u0).setCell ⟨b, 1, none⟩ u1).setCell ⟨b, 2, none⟩ u2).setCell ⟨b, 3, none⟩ u3).setCell ⟨b, 4, none⟩ u4).setCell ⟨b, 5, none⟩ u5) p s k :=
  (((((h.own (q := ⟨b, 0, none⟩) hb u0).own (q := ⟨b, 1, none⟩) hb u1).own (q := ⟨b, 2, none⟩) hb u2).own (q := ⟨b, 3, none⟩) hb u3).own (q := ⟨b, 4, none⟩) hb u4).own (q := ⟨b, 5, none⟩) hb u5
theorem Keep.set6 {a w : World} {p b : Nat} (h : Keep p a w) (hb : a.heap.size ≤ b) (u0 u1 u2 u3 u4 u5 : Value) : Keep p a ((((((w.setCell ⟨b, 0, none⟩ u0).setCell ⟨b, 1, none⟩ u1).setCell ⟨b, 2, none⟩ u2).setCell ⟨b, 3, none⟩ u3).setCell ⟨b, 4, none⟩ u4).setCell ⟨b, 5, none⟩ u5) :=
  (((((h.own (q := ⟨b, 0, none⟩) hb u0).own (q := ⟨b, 1, none⟩) hb u1).own (q := ⟨b, 2, none⟩) hb u2).own (q := ⟨b, 3, none⟩) hb u3).own (q := ⟨b, 4, none⟩) hb u4).own (q := ⟨b, 5, none⟩) hb u5
/-- A row of the call's own stays while another block is stored into. -/
theorem row_own {w : World} {base : Nat} {e : TypeId} {size : Nat} {v : Value} {n : Nat} {xs : List Value} (h : w.ownsRow base e size v n xs) {a : Addr} (ha : v.ownBlock ≠ some a.block) (u : Value) : (w.setCell a u).ownsRow base e size v n xs := by
  obtain ⟨h1, h2⟩ := h
  refine ⟨h1, ?_⟩
  rcases h2 with h2 | ⟨g, cap, cur, hv, hg, hh, r⟩
  · exact Or.inl h2
  · refine Or.inr ⟨g, cap, cur, hv, hg, ?_, r⟩
    rw [Below.heap_setCell _ _ _ _ (fun e => ha (by rw [hv, ← e]; rfl))]
    exact hh
theorem row_set6 {w : World} {base b : Nat} {e : TypeId} {size : Nat} {v : Value} {n : Nat} {xs : List Value} (h : w.ownsRow base e size v n xs) (hb : v.ownBlock ≠ some b) (u0 u1 u2 u3 u4 u5 : Value) : ((((((w.setCell ⟨b, 0, none⟩ u0).setCell ⟨b, 1, none⟩ u1).setCell ⟨b, 2, none⟩ u2).setCell ⟨b, 3, none⟩ u3).setCell ⟨b, 4, none⟩ u4).setCell ⟨b, 5, none⟩ u5).ownsRow base e size v n xs :=
  row_own (row_own (row_own (row_own (row_own (row_own h (a := ⟨b, 0, none⟩) hb u0) (a := ⟨b, 1, none⟩) hb u1) (a := ⟨b, 2, none⟩) hb u2) (a := ⟨b, 3, none⟩) hb u3) (a := ⟨b, 4, none⟩) hb u4) (a := ⟨b, 5, none⟩) hb u5
/-- What a call that reads a construct gives: a token, the error; on success the token is the reference's, or it is ignored. -/
def ConC (w0 : World) (p : Nat) (s : ByteArray) (R : TokD × Int × Int) (e : Ending) (w' : World) : Prop := ∃ (T : TokD) (v : Value), e = .returned (.tuple #[tokVal T v, .int .i64 R.2.2]) ∧ w'.ownsRow w0.heap.size 38 4 v T.al.length (attrsCells T.al) ∧ Cur w' p s R.2.1 ∧ Keep p w0 w' ∧ (R.2.2 = 0 → T = R.1 ∨ (T.kind = 0 ∧ T.tx = [] ∧ R.1.kind = 3 ∧ R.1.tx = []))
theorem expP_one (s : ByteArray) (i : Int) (k : Nat) (c : UInt8) : expP s i k [c] = if hasP s.data.toList (k : Int) [c] then ((k : Int) + 1, 0) else misP s.size i k := rfl
set_option maxRecDepth 100000 in
set_option maxHeartbeats 16000000 in
theorem tag_end (p : Nat) (s : ByteArray) (i : Nat) (w : World) (hC : Cur w p s ((i + 2 : Nat) : Int)) (hi : i + 2 ≤ s.size) (hs : s.size ≤ 1000000) (hT : TkT p w) :
    Calls Tryd.prog 40 #[rdrV p i] w fun e w' => ConC w p s (⟨2, (endP s i).1, [], false, [], i⟩, (endP s i).2.1, (endP s i).2.2) e w' := by
  have hsl : s.data.toList.length = s.size := by simp
  have hpw := hC.lt
  have D0 := Lib.hid (AT.new hC i tokZs 29)
  unfold tokZs at D0
  have t0 := hT.keep D0.out.1.2.1
  have hep := endP_def s i
  unfold ConC
  by_cases hn : nmP s (i + 2) = i + 2
  · have cN : ∀ wx, Cur wx p s ((i + 2 : Nat) : Int) → TkT p wx → _ := fun wx h t => tag_name_no p s i (i + 2) wx h hi hs t hn
    rw [if_pos hn] at hep
    rw [hep]
    have hmn := misP_ne s.size i ((i + 2 : Nat) : Int)
    generalize misP s.size i ((i + 2 : Nat) : Int) = mp at *
    obtain ⟨y1, y2⟩ := mp
    simp only at cN hmn ⊢
    have herb : (y2 != 0) = true := by simpa using hmn
    unfold rdrV at *
    clear hep hn hC hsl
    go_enter Tryd.func40, Tryd.ntmps40
    go_wp2_with fail
    refine (cN _ D0.out.1.1 t0).mono ?_
    rintro e w1 ⟨rfl, c1, k1⟩
    have D1 := Lib.hid (D0.out.step c1 k1)
    obtain ⟨⟨r0, r1, r2, r3, r4, r5⟩, f0, f1, f2, f3, f4, f5⟩ := Blk.six D1.out.2
    clear c1 k1 t0
    go_wp2
    exact bodyPost_ret (v := .tuple #[.agg #[.int .i64 0, .string ⟨#[]⟩, .slice none 0 0, .bool false, .string ⟨#[]⟩, .int .i64 0], .int .i64 y2]) (by simp [results, Tryd.results40, go_sem, cell_set_same, r0, r1, r2, r3, r4, r5]) rfl ⟨tokZ, _, rfl, World.ownsRow_nil _ _ _ _, Cur.set6 D1.out.1.1 (by omega) _ _ _ _ _ _, Keep.set6 D1.out.1.2.1 (by omega) _ _ _ _ _ _, fun h => absurd h hmn⟩
  · have cN : ∀ wx, Cur wx p s ((i + 2 : Nat) : Int) → TkT p wx → _ := fun wx h t => tag_name_yes p s i (i + 2) wx h hi hs t hn
    rw [if_neg hn] at hep
    have hle := nmP_le s (i + 2) hi
    have cS : ∀ wx, Cur wx p s (nmP s (i + 2) : Nat) → _ := fun wx h => cur_skipSpace p s (nmP s (i + 2)) wx h hle.2 hs
    have hsp := spP_le s.data.toList (nmP s (i + 2)) (by omega)
    have cE : ∀ wx, Cur wx p s (spP s.data.toList (nmP s (i + 2)) : Nat) → _ := fun wx h => tag_expect p s ⟨#[62]⟩ i (spP s.data.toList (nmP s (i + 2))) wx h (by omega) hs (by decide)
    rw [show (⟨#[62]⟩ : ByteArray).data.toList = [62] from rfl, expP_one] at cE
    have hep2 : endP s i = ((s.data.toList.drop (i + 2)).take (nmP s (i + 2) - (i + 2)), (if hasP s.data.toList ((spP s.data.toList (nmP s (i + 2)) : Nat) : Int) [62] then (((spP s.data.toList (nmP s (i + 2)) : Nat) : Int) + 1, 0) else misP s.size i ((spP s.data.toList (nmP s (i + 2)) : Nat) : Int))) := by
      rw [hep]; split <;> rfl
    rw [hep2]
    generalize (if hasP s.data.toList ((spP s.data.toList (nmP s (i + 2)) : Nat) : Int) [62] then (((spP s.data.toList (nmP s (i + 2)) : Nat) : Int) + 1, (0 : Int)) else misP s.size i ((spP s.data.toList (nmP s (i + 2)) : Nat) : Int)) = rp at *
    obtain ⟨y1, y2⟩ := rp
    generalize spP s.data.toList (nmP s (i + 2)) = k1 at *
    generalize decide (nmP s (i + 2) < k1) = bb at *
    generalize (s.data.toList.drop (i + 2)).take (nmP s (i + 2) - (i + 2)) = N at *
    generalize nmP s (i + 2) = nk at *
    simp only at cE ⊢
    unfold rdrV at *
    obtain ⟨NS, hNS⟩ : ∃ NS, ofBytes N = NS := ⟨_, rfl⟩
    rw [hNS] at cN
    have HNS := Lib.hid hNS
    clear hep hep2 hn hC hsl hle hsp hNS
    go_enter Tryd.func40, Tryd.ntmps40
    go_wp2_with fail
    refine (cN _ D0.out.1.1 t0).mono ?_
    rintro e w1 ⟨rfl, c1, k1'⟩
    have D1 := Lib.hid (D0.out.step c1 k1')
    have g0 := D1.out.1.g0
    have g1 := D1.out.1.g1
    clear c1 k1' t0
    go_wp2_with fail
    refine (cS _ D1.out.1.1).mono ?_
    rintro e w2 ⟨rfl, c2, k2⟩
    have D2 := Lib.hid (D1.out.step c2 k2)
    clear g0 g1 c2 k2
    have g0 := D2.out.1.g0
    have g1 := D2.out.1.g1
    have cE2 := cE w2.drew D2.out.1.1
    have hD2 : ∀ w5, Cur w5 p s y1 → Keep p w2.drew w5 → AT #[.int .i64 0, .string ⟨#[]⟩, .slice none 0 0, .bool false, .string ⟨#[]⟩, .int .i64 0] 29 w w5 p s i y1 := fun w5 c k => D2.out.step c ((Keep.refl _ _).drew.trans k)
    have HD2 := Lib.hid hD2
    clear hD2
    clear cN cS cE D0 hT
    go_wp2
    go_region_with (go_at_call 57; refine cE2.mono ?_; rintro e w5 ⟨rfl, c5, k5⟩; have D5 := Lib.hid (HD2.out w5 c5 k5); have h0 := D5.out.1.g0; have h1 := D5.out.1.g1; obtain ⟨⟨r0, r1, r2, r3, r4, r5⟩, f0, f1, f2, f3, f4, f5⟩ := Blk.six D5.out.2; clear c5 k5)
    all_goals go_wp2
    all_goals exact bodyPost_ret (v := .tuple #[.agg #[.int .i64 2, .string NS, .slice none 0 0, .bool false, .string ⟨#[]⟩, .int .i64 i], .int .i64 y2]) (by simp [results, Tryd.results40, go_sem, cell_set_same, r0, r1, r2, r3, r4, r5]) rfl ⟨⟨2, N, [], false, [], i⟩, .slice none 0 0, (by rw [← HNS.out]; rfl), World.ownsRow_nil _ _ _ _, Cur.set6 D5.out.1.1 (by omega) _ _ _ _ _ _, Keep.set6 D5.out.1.2.1 (by omega) _ _ _ _ _ _, fun _ => .inl rfl⟩
end
section
open Go.RowKit

theorem startEnd_no (s : ByteArray) (i : Nat) (N : List UInt8) (m : Nat) (al : List AttrD) (h : hasP s.data.toList (m : Int) [47] = false) : startEnd s i N m al = ⟨N, al, false, (expP s i m [62]).1, (expP s i m [62]).2⟩ := by
  unfold startEnd
  rw [expP_one]
  by_cases h1 : hasP s.data.toList (m : Int) [62] = true
  · rw [if_pos h1, if_pos h1]
  · rw [if_neg h1, if_neg h1, if_neg (fun e => by rw [has_pre e] at h; cases h), if_neg (by rw [h]; decide)]
theorem has_two (l : List UInt8) (m : Nat) (a b : UInt8) (h : hasP l (m : Int) [a] = true) : hasP l (m : Int) [a, b] = hasP l ((m + 1 : Nat) : Int) [b] := by
  obtain ⟨hm, he⟩ := hasP_one l m a h
  rw [← pre_has, ← pre_has, List.drop_eq_getElem_cons hm, he, List.isPrefixOf]
  simp
theorem startEnd_yes (s : ByteArray) (i : Nat) (N : List UInt8) (m : Nat) (al : List AttrD) (h : hasP s.data.toList (m : Int) [47] = true) : (startEnd s i N m al).p1 = (expP s i (m + 1) [62]).1 ∧ (startEnd s i N m al).p2 = (expP s i (m + 1) [62]).2 ∧ ((expP s i (m + 1) [62]).2 = 0 → startEnd s i N m al = ⟨N, al, true, (expP s i (m + 1) [62]).1, (expP s i (m + 1) [62]).2⟩) := by
  obtain ⟨hm, he⟩ := hasP_one s.data.toList m 47 h
  have h1 : hasP s.data.toList (m : Int) [62] = false := hasP_no [] (c := 47) (by rw [List.getElem?_eq_getElem hm, he]) (by decide)
  have h2 := has_two s.data.toList m 47 62 h
  unfold startEnd
  rw [expP_one, if_neg (by rw [h1]; decide), h2]
  by_cases h3 : hasP s.data.toList ((m + 1 : Nat) : Int) [62] = true
  · rw [if_pos h3, if_pos h3]
    refine ⟨by simp only; omega, rfl, fun _ => ?_⟩
    rw [show ((m + 1 : Nat) : Int) + 1 = (m : Int) + 2 by omega]
  · rw [if_neg h3, if_neg h3, if_pos h, show ((m + 1 : Nat) : Int) = (m : Int) + 1 by omega]
    exact ⟨rfl, rfl, fun e => absurd e (misP_ne _ _ _)⟩
set_option maxRecDepth 100000 in
set_option maxHeartbeats 16000000 in
theorem tag_start (p : Nat) (s : ByteArray) (i : Nat) (w : World) (hC : Cur w p s ((i + 1 : Nat) : Int)) (hi : i + 1 ≤ s.size) (hs : s.size ≤ 1000000) (hT : TkT p w) :
    Calls Tryd.prog 41 #[rdrV p i] w fun e w' => ConC w p s (⟨1, (startP s i).nm, (startP s i).al, (startP s i).em, [], i⟩, (startP s i).p1, (startP s i).p2) e w' := by
  have hsl : s.data.toList.length = s.size := by simp
  have hpw := hC.lt
  have D0 := Lib.hid (AT.new hC i tokZs 29)
  unfold tokZs at D0
  have t0 := hT.keep D0.out.1.2.1
  have hep : startP s i = (if nmP s (i + 1) = i + 1 then ⟨[], [], false, (misP s.size i ((i + 1 : Nat) : Int)).1, (misP s.size i ((i + 1 : Nat) : Int)).2⟩ else startGo s i ((s.data.toList.drop (i + 1)).take (nmP s (i + 1) - (i + 1))) (s.size + 1) (nmP s (i + 1)) []) := rfl
  unfold ConC
  by_cases hn : nmP s (i + 1) = i + 1
  · have cN : ∀ wx, Cur wx p s ((i + 1 : Nat) : Int) → TkT p wx → _ := fun wx h t => tag_name_no p s i (i + 1) wx h hi hs t hn
    rw [if_pos hn] at hep
    rw [hep]
    have hmn := misP_ne s.size i ((i + 1 : Nat) : Int)
    generalize misP s.size i ((i + 1 : Nat) : Int) = mp at *
    obtain ⟨y1, y2⟩ := mp
    simp only at cN hmn ⊢
    have herb : (y2 != 0) = true := by simpa using hmn
    unfold rdrV at *
    clear hep hn hC hsl
    go_enter Tryd.func41, Tryd.ntmps41
    go_wp2_with fail
    refine (cN _ D0.out.1.1 t0).mono ?_
    rintro e w1 ⟨rfl, c1, k1⟩
    have D1 := Lib.hid (D0.out.step c1 k1)
    obtain ⟨⟨r0, r1, r2, r3, r4, r5⟩, f0, f1, f2, f3, f4, f5⟩ := Blk.six D1.out.2
    clear c1 k1 t0
    go_wp2
    exact bodyPost_ret (v := .tuple #[.agg #[.int .i64 0, .string ⟨#[]⟩, .slice none 0 0, .bool false, .string ⟨#[]⟩, .int .i64 0], .int .i64 y2]) (by simp [results, Tryd.results41, go_sem, cell_set_same, r0, r1, r2, r3, r4, r5]) rfl ⟨tokZ, _, rfl, World.ownsRow_nil _ _ _ _, Cur.set6 D1.out.1.1 (by omega) _ _ _ _ _ _, Keep.set6 D1.out.1.2.1 (by omega) _ _ _ _ _ _, fun h => absurd h hmn⟩
  · have cN : ∀ wx, Cur wx p s ((i + 1 : Nat) : Int) → TkT p wx → _ := fun wx h t => tag_name_yes p s i (i + 1) wx h hi hs t hn
    rw [if_neg hn] at hep
    have hle := nmP_le s (i + 1) hi
    have cA : ∀ wx, Cur wx p s (nmP s (i + 1) : Nat) → TkT p wx → _ := fun wx h t => tag_attributes p s i (nmP s (i + 1)) wx h hle.2 hs t
    obtain ⟨SP, hSP⟩ : ∃ SP, startP s i = SP := ⟨_, rfl⟩
    rw [hSP] at hep ⊢
    have HSP := Lib.hid hep
    generalize (s.data.toList.drop (i + 1)).take (nmP s (i + 1) - (i + 1)) = N at *
    generalize nmP s (i + 1) = nk at *
    have cK47 : ∀ (m : Nat) wx, m ≤ s.size → hasP s.data.toList (m : Int) [47] = false → Cur wx p s m → _ := fun m wx hm hb h => cur_skip_no p s ⟨#[47]⟩ m wx h hm hb
    have cY47 : ∀ (m : Nat) wx, m ≤ s.size → hasP s.data.toList (m : Int) [47] = true → Cur wx p s m → _ := fun m wx hm hb h => cur_skip_yes p s ⟨#[47]⟩ m wx h hm hs (by decide) hb
    have cE : ∀ (m : Nat) wx, m ≤ s.size → Cur wx p s m → _ := fun m wx hm h => tag_expect p s ⟨#[62]⟩ i m wx h hm hs (by decide)
    rw [show (⟨#[62]⟩ : ByteArray).data.toList = [62] from rfl] at cE
    unfold rdrV at *
    obtain ⟨NS, hNS⟩ : ∃ NS, ofBytes N = NS := ⟨_, rfl⟩
    rw [hNS] at cN
    have HNS := Lib.hid hNS
    clear hep hn hC hle hNS hSP
    go_enter Tryd.func41, Tryd.ntmps41
    go_wp2_with fail
    refine (cN _ D0.out.1.1 t0).mono ?_
    rintro e w1 ⟨rfl, c1, k1'⟩
    have D1 := Lib.hid (D0.out.step c1 k1')
    have t1 := hT.keep D1.out.1.2.1
    have g0 := D1.out.1.g0
    have g1 := D1.out.1.g1
    clear c1 k1' t0
    go_wp2_with fail
    refine (cA _ D1.out.1.1 t1).mono ?_
    rintro e w2 ⟨v, al, x, er, rfl, hrow, c2, k2, hor⟩
    have hbz := D1.out.2.lt
    have D2 := Lib.hid (D1.out.step c2 k2)
    obtain ⟨A, c, rfl⟩ := own_form hrow
    have hrow2 := Go.Joins.ownsRow_le hrow (show w.heap.size + 2 ≤ w1.heap.size by omega)
    have HR2 := Lib.hid hrow2
    clear g0 g1 c2 k2 t1 hrow hrow2 cA cN D0 D1
    rcases hor with ⟨her, hgo⟩ | ⟨rfl, m, rfl, hm, hgo⟩
    · have hp1 : SP.p1 = x := by rw [HSP.out]; exact (hgo N).1
      have hp2 : SP.p2 = er := by rw [HSP.out]; exact (hgo N).2
      have HP1 := Lib.hid hp1
      have HP2 := Lib.hid hp2
      have herb : (er != 0) = true := by simpa using her
      obtain ⟨⟨r0, r1, r2, r3, r4, r5⟩, f0, f1, f2, f3, f4, f5⟩ := Blk.six D2.out.2
      clear hgo hp1 hp2 cK47 cY47 cE hbz
      go_wp2
      exact bodyPost_ret (v := .tuple #[.agg #[.int .i64 0, .string ⟨#[]⟩, .slice none 0 0, .bool false, .string ⟨#[]⟩, .int .i64 0], .int .i64 er]) (by simp [results, Tryd.results41, go_sem, cell_set_same, r0, r1, r2, r3, r4, r5]) rfl ⟨tokZ, _, (by rw [HP2.out]; rfl), World.ownsRow_nil _ _ _ _, (by rw [HP1.out]; exact Cur.set6 D2.out.1.1 (by omega) _ _ _ _ _ _), Keep.set6 D2.out.1.2.1 (by omega) _ _ _ _ _ _, fun h => absurd (HP2.out.symm.trans h) her⟩
    · have hSPe : SP = startEnd s i N m al := by rw [HSP.out]; exact hgo N
      have g0 := D2.out.1.g0
      have g1 := D2.out.1.g1
      rcases hb : hasP s.data.toList (m : Int) [47] with _ | _
      · have hse := startEnd_no s i N m al hb
        have cK := fun wx => cK47 m wx hm hb
        have cX := fun wx => cE m wx hm
        rw [hse] at hSPe
        generalize expP s (i : Int) m [62] = ep at *
        obtain ⟨y1, y2⟩ := ep
        simp only at cX hSPe
        have HP1 := Lib.hid (show SP.p1 = y1 by rw [hSPe])
        have HP2 := Lib.hid (show SP.p2 = y2 by rw [hSPe])
        have HT := Lib.hid (show y2 = 0 → SP = ⟨N, al, false, y1, y2⟩ from fun _ => hSPe)
        clear hgo hSPe hse hb HSP cK47 cY47 cE
        go_wp2_with fail
        refine (cK _ D2.out.1.1).mono ?_
        rintro e w3 ⟨rfl, b3⟩
        have D3 := Lib.hid (D2.out.more b3)
        have R3 := Lib.hid (row_below HR2.out (b3.mono (Nat.le_refl _)))
        clear g0 g1 b3
        have g0 := D3.out.1.g0
        have g1 := D3.out.1.g1
        have cE2 := cX w3.drew D3.out.1.1
        have hD3 : ∀ w5, Cur w5 p s y1 → Keep p w3.drew w5 → AT #[.int .i64 0, .string ⟨#[]⟩, .slice none 0 0, .bool false, .string ⟨#[]⟩, .int .i64 0] 29 w w5 p s i y1 ∧ w5.ownsRow (w.heap.size + 2) 38 4 (.slice A al.length c) al.length (attrsCells al) := fun w5 c' k => ⟨D3.out.step c' ((Keep.refl _ _).drew.trans k), ((Keep.refl _ _).drew.trans k).row R3.out (by omega)⟩
        have HD3 := Lib.hid hD3
        clear hD3 cK cX D2 HR2 hT hi hs hm
        go_wp2
        go_region_with (go_at_call 57; refine cE2.mono ?_; rintro e w5 ⟨rfl, c5, k5⟩; have D5 := Lib.hid (HD3.out w5 c5 k5); have h0 := D5.out.1.1.g0; have h1 := D5.out.1.1.g1; obtain ⟨⟨r0, r1, r2, r3, r4, r5⟩, f0, f1, f2, f3, f4, f5⟩ := Blk.six D5.out.1.2; clear c5 k5)
        all_goals go_wp2
        all_goals exact bodyPost_ret (v := .tuple #[.agg #[.int .i64 1, .string NS, .slice A al.length c, .bool false, .string ⟨#[]⟩, .int .i64 i], .int .i64 y2]) (by simp [results, Tryd.results41, go_sem, cell_set_same, r0, r1, r2, r3, r4, r5]) rfl ⟨⟨1, N, al, false, [], i⟩, .slice A al.length c, (by rw [HP2.out, ← HNS.out]; rfl), Go.Joins.ownsRow_le (row_set6 D5.out.2 (fun e => by have := (D5.out.2.lt _ e).1; omega) _ _ _ _ _ _) (by omega), (by rw [HP1.out]; exact Cur.set6 D5.out.1.1.1 (by omega) _ _ _ _ _ _), Keep.set6 D5.out.1.1.2.1 (by omega) _ _ _ _ _ _, fun h => .inl (by rw [HT.out (HP2.out.symm.trans h)])⟩
      · obtain ⟨hy1, hy2, hy3⟩ := startEnd_yes s i N m al hb
        have hm1 : m + 1 ≤ s.size := by
          have := hasP_len hb (by simp)
          simp only [List.length_cons, List.length_nil] at this
          omega
        have cK := fun wx => cY47 m wx hm hb
        have cX := fun wx (h : Cur wx p s ((m : Int) + 1)) => cE (m + 1) wx hm1 (by rw [show ((m + 1 : Nat) : Int) = (m : Int) + 1 by omega]; exact h)
        rw [← hSPe] at hy1 hy2 hy3
        generalize expP s (i : Int) (m + 1) [62] = ep at *
        obtain ⟨y1, y2⟩ := ep
        simp only at cX hy1 hy2 hy3
        have HP1 := Lib.hid hy1
        have HP2 := Lib.hid hy2
        have HT := Lib.hid hy3
        clear hgo hSPe hb HSP cK47 cY47 cE hy1 hy2 hy3
        go_wp2_with fail
        refine (cK _ D2.out.1.1).mono ?_
        rintro e w3 ⟨rfl, c3, k3⟩
        have D3 := Lib.hid (D2.out.step c3 k3)
        have R3 := Lib.hid (k3.row HR2.out (by omega))
        clear g0 g1 c3 k3
        have g0 := D3.out.1.g0
        have g1 := D3.out.1.g1
        have cE2 := cX w3.drew D3.out.1.1
        have hD3 : ∀ w5, Cur w5 p s y1 → Keep p w3.drew w5 → AT #[.int .i64 0, .string ⟨#[]⟩, .slice none 0 0, .bool false, .string ⟨#[]⟩, .int .i64 0] 29 w w5 p s i y1 ∧ w5.ownsRow (w.heap.size + 2) 38 4 (.slice A al.length c) al.length (attrsCells al) := fun w5 c' k => ⟨D3.out.step c' ((Keep.refl _ _).drew.trans k), ((Keep.refl _ _).drew.trans k).row R3.out (by omega)⟩
        have HD3 := Lib.hid hD3
        clear hD3 cK cX D2 HR2 hT hi hs hm
        go_wp2
        go_region_with (go_at_call 57; refine cE2.mono ?_; rintro e w5 ⟨rfl, c5, k5⟩; have D5 := Lib.hid (HD3.out w5 c5 k5); have h0 := D5.out.1.1.g0; have h1 := D5.out.1.1.g1; obtain ⟨⟨r0, r1, r2, r3, r4, r5⟩, f0, f1, f2, f3, f4, f5⟩ := Blk.six D5.out.1.2; clear c5 k5)
        all_goals go_wp2
        all_goals exact bodyPost_ret (v := .tuple #[.agg #[.int .i64 1, .string NS, .slice A al.length c, .bool true, .string ⟨#[]⟩, .int .i64 i], .int .i64 y2]) (by simp [results, Tryd.results41, go_sem, cell_set_same, r0, r1, r2, r3, r4, r5]) rfl ⟨⟨1, N, al, true, [], i⟩, .slice A al.length c, (by rw [HP2.out, ← HNS.out]; rfl), Go.Joins.ownsRow_le (row_set6 D5.out.2 (fun e => by have := (D5.out.2.lt _ e).1; omega) _ _ _ _ _ _) (by omega), (by rw [HP1.out]; exact Cur.set6 D5.out.1.1.1 (by omega) _ _ _ _ _ _), Keep.set6 D5.out.1.1.2.1 (by omega) _ _ _ _ _ _, fun h => .inl (by rw [HT.out (HP2.out.symm.trans h)])⟩
end
end Go.Proofs.YtpphpnkijokffaaDoor
