/- Packed from the texts TokJ TokM TokS TokFa TokLa. -/
import Derived.Test.YtoehcholbcchcaaDoorUChk
import Derived.Test.YtoehcholbcchcaaDoorUEscC
import Derived.Test.YtoehcholbcchcaaDoorUTextM
import Derived.Test.YtoehcholbcchcaaDoorUTokE
import Derived.Lib.SmallJoins
import Derived.BigRegion
import Derived.Lib.OwnKind
import Derived.Lib.Bytes
import Derived.Lib.IndexMore
section
namespace Go.Proofs.YtoehcholbcchcaaDoor
open Go.RowKit
theorem quoAt_bd (l : List UInt8) (x : UInt8) (e : Nat) : e ≤ quoAt l x e ∧ (e ≤ l.length → quoAt l x e ≤ l.length) := by
  unfold quoAt
  have h := (List.takeWhile_prefix (fun c => c != x && c != 60) (l := l.drop e)).length_le
  rw [List.length_drop] at h
  omega
theorem misP_ne (n i : Nat) (k : Int) : (misP n i k).2 ≠ 0 := by
  unfold misP
  split <;> simp
theorem attrP_ok (s : ByteArray) (i a : Nat) (ha : a ≤ s.size) (h : (attrP s i a).2.2 = 0) : ∃ z : Nat, (attrP s i a).2.1 = (z : Int) ∧ a < z ∧ z ≤ s.size := by
  have hsl : s.data.toList.length = s.size := by simp
  have a4 : ∀ N m e c, e ≤ s.size → a ≤ m → m + 1 ≤ e → (attr4 s i N e c).2.2 = 0 → ∃ z : Nat, (attr4 s i N e c).2.1 = (z : Int) ∧ a < z ∧ z ≤ s.size := by
    intro N m e c he hm hme h
    unfold attr4 at h ⊢
    split at h
    · rename_i h1; exact absurd h h1
    · rename_i h1
      rw [if_neg h1]
      split at h
      · exact absurd h (by simp)
      · rename_i h2
        rw [if_neg h2]
        split at h
        · exact absurd h (by simp)
        · rename_i h3
          rw [if_neg h3]
          exact ⟨e + 1, by simp, by omega, by omega⟩
  have a2 : ∀ N m, a ≤ m → m + 1 ≤ s.size → (attr2 s i N m).2.2 = 0 → ∃ z : Nat, (attr2 s i N m).2.1 = (z : Int) ∧ a < z ∧ z ≤ s.size := by
    intro N m hm hms h
    unfold attr2 at h ⊢
    have q := fun x => quoAt_bd s.data.toList x (m + 1)
    split at h
    · rename_i h1
      rw [if_pos h1]
      exact a4 N m _ _ (by have := (q 34).2 (by omega); omega) hm (q 34).1 h
    · rename_i h1
      rw [if_neg h1]
      split at h
      · rename_i h2
        rw [if_pos h2]
        exact a4 N m _ _ (by have := (q 39).2 (by omega); omega) hm (q 39).1 h
      · exact absurd h (misP_ne _ _ _)
  rw [attrP_def] at h ⊢
  have hb := nmP_le s a ha
  split at h
  · exact absurd h (misP_ne _ _ _)
  · rename_i h1
    rw [if_neg h1]
    generalize (s.data.toList.drop a).take (nmP s a - a) = N at *
    generalize nmP s a = n at *
    have hk := spP_le s.data.toList n (by omega)
    rw [hsl] at hk
    generalize spP s.data.toList n = k at *
    unfold attr1 at h ⊢
    split at h
    · rename_i h2
      rw [if_pos h2]
      obtain ⟨hkl, _⟩ := hasP_one _ _ _ h2
      have hm := spP_le s.data.toList (k + 1) (by omega)
      rw [hsl] at hm
      generalize spP s.data.toList (k + 1) = m at *
      rcases Nat.lt_or_ge m s.size with hms | hms
      · exact a2 N m (by omega) (by omega) h
      · exfalso
        have h34 : hasP s.data.toList (m : Int) [34] = false := by
          rw [← Bool.not_eq_true]; intro hh; obtain ⟨hx, _⟩ := hasP_one _ _ _ hh; omega
        have h39 : hasP s.data.toList (m : Int) [39] = false := by
          rw [← Bool.not_eq_true]; intro hh; obtain ⟨hx, _⟩ := hasP_one _ _ _ hh; omega
        unfold attr2 at h
        rw [h34, h39, if_neg (by decide), if_neg (by decide)] at h
        exact absurd h (misP_ne _ _ _)
    · exact absurd h (misP_ne _ _ _)
def attrCells (x : AttrD) : List Value := [.string x.sp, .string x.nm, .string x.va, .int .i64 x.at']
def attrsCells (l : List AttrD) : List Value := l.flatMap attrCells
theorem attrsCells_len (l : List AttrD) : (attrsCells l).length = l.length * 4 := by
  induction l with
  | nil => rfl
  | cons x r ih => rw [attrsCells, List.flatMap_cons, List.length_append, List.length_cons]; rw [attrsCells] at ih; rw [ih]; show 4 + _ = _; omega
theorem attrsCells_app (l m : List AttrD) : attrsCells (l ++ m) = attrsCells l ++ attrsCells m := by unfold attrsCells; rw [List.flatMap_append]
theorem attrsCells_at : ∀ (l : List AttrD) (i : Nat) (h : i < l.length) (k : Nat), k < 4 → (attrsCells l)[i * 4 + k]? = (attrCells l[i])[k]?
  | [], i, h, _, _ => absurd h (Nat.not_lt_zero _)
  | x :: r, 0, _, k, hk => by
    show (attrCells x ++ attrsCells r)[0 * 4 + k]? = (attrCells x)[k]?
    rw [List.getElem?_append_left (by show 0 * 4 + k < 4; omega)]
    simp
  | x :: r, i + 1, h, k, hk => by
    show (attrCells x ++ attrsCells r)[(i + 1) * 4 + k]? = _
    rw [List.getElem?_append_right (by show 4 ≤ (i + 1) * 4 + k; omega)]
    show (attrsCells r)[(i + 1) * 4 + k - 4]? = _
    rw [show (i + 1) * 4 + k - 4 = i * 4 + k by omega, attrsCells_at r i (by simpa using h) k hk]
    rfl
theorem addr_add2 (g j k : Nat) : ((⟨g, 0, none⟩ : Addr).add j).add k = ⟨g, j + k, none⟩ := by rw [addr_add]; unfold Addr.add; split <;> simp_all
theorem attrs_of_row {w : World} {base : Nat} {t : TypeId} {A : Option Addr} {n c : Nat} {l : List AttrD} (h : w.ownsRow base t 4 (.slice A n c) n (attrsCells l)) : AttrsAt w A l := by
  intro i hi
  have hc := fun g => h.cells (g := g)
  rcases h.2 with ⟨h0, h1⟩ | ⟨g, cap, cur, hv, _⟩
  · have := h.1
    rw [attrsCells_len, h1] at this
    omega
  · injection hv with hA
    subst hA
    have hk : ∀ k v, k < 4 → (attrCells l[i])[k]? = some v → w.cell? (((⟨g, 0, none⟩ : Addr).add (i * 4)).add k) = some v := by
      intro k v hk hv
      rw [addr_add2, ← addr_add]
      exact hc g rfl (i * 4 + k) v (by rw [attrsCells_at l i hi k hk]; exact hv)
    refine ⟨_, rfl, ?_, hk 1 _ (by omega) rfl, hk 2 _ (by omega) rfl, hk 3 _ (by omega) rfl⟩
    have := hk 0 _ (by omega) rfl
    rwa [addr_add2, Nat.add_zero, ← addr_add] at this
theorem row_below {B : Nat} {e : TypeId} {k : Nat} {v : Value} {n : Nat} {xs : List Value} {w w' : World} (h : w.ownsRow B e k v n xs) (hb : Below w.heap.size w w') : w'.ownsRow B e k v n xs := by
  refine ⟨h.1, ?_⟩
  rcases h.2 with h0 | ⟨g, cap, cur, hv, hB, hg, rest⟩
  · exact .inl h0
  · have hlt : g < w.heap.size := (Array.getElem?_eq_some_iff.1 hg).1
    exact .inr ⟨g, cap, cur, hv, hB, (hb.block g hlt).trans hg, rest⟩
def attrOf (N V : List UInt8) (a : Nat) : AttrD := ⟨⟨#[]⟩, ofBytes N, ofBytes V, a⟩
structure StartR where
  nm : List UInt8
  al : List AttrD
  em : Bool
  p1 : Int
  p2 : Int
def startGo (s : ByteArray) (i : Nat) (N : List UInt8) : Nat → Nat → List AttrD → StartR
  | 0, _, acc => ⟨N, acc, false, 0, 0⟩
  | f + 1, a, acc =>
    if hasP s.data.toList (spP s.data.toList a : Nat) [62] then ⟨N, acc, false, (spP s.data.toList a : Nat) + 1, 0⟩
    else if hasP s.data.toList (spP s.data.toList a : Nat) [47, 62] then ⟨N, acc, true, (spP s.data.toList a : Nat) + 2, 0⟩
    else if hasP s.data.toList (spP s.data.toList a : Nat) [47] then ⟨N, acc, false, (misP s.size i ((spP s.data.toList a : Nat) + 1)).1, (misP s.size i ((spP s.data.toList a : Nat) + 1)).2⟩
    else if spP s.data.toList a = a then ⟨N, acc, false, (misP s.size i (a : Int)).1, (misP s.size i (a : Int)).2⟩
    else if (attrP s i (spP s.data.toList a)).2.2 ≠ 0 then ⟨N, acc, false, (attrP s i (spP s.data.toList a)).2.1, (attrP s i (spP s.data.toList a)).2.2⟩
    else if ∃ x ∈ acc, x.nm = ofBytes (attrP s i (spP s.data.toList a)).1.1 then ⟨N, acc, false, (spP s.data.toList a : Nat), 10⟩
    else startGo s i N f (attrP s i (spP s.data.toList a)).2.1.toNat (acc ++ [attrOf (attrP s i (spP s.data.toList a)).1.1 (attrP s i (spP s.data.toList a)).1.2 (spP s.data.toList a)])
def startP (s : ByteArray) (i : Nat) : StartR :=
  if nmP s (i + 1) = i + 1 then ⟨[], [], false, (misP s.size i ((i + 1 : Nat) : Int)).1, (misP s.size i ((i + 1 : Nat) : Int)).2⟩
  else startGo s i ((s.data.toList.drop (i + 1)).take (nmP s (i + 1) - (i + 1))) (s.size + 1) (nmP s (i + 1)) []
def ResAt (w : World) (b : Nat) : Prop := (w.cell? ⟨b, 0, none⟩ = some (.int .i64 0) ∧ w.cell? ⟨b, 1, none⟩ = some (.string ⟨#[]⟩) ∧ w.cell? ⟨b, 2, none⟩ = some (.slice none 0 0) ∧ w.cell? ⟨b, 3, none⟩ = some (.bool false) ∧ w.cell? ⟨b, 4, none⟩ = some (.string ⟨#[]⟩) ∧ w.cell? ⟨b, 5, none⟩ = some (.int .i64 0)) ∧
  w.frozen? ⟨b, 0, none⟩ = false ∧ w.frozen? ⟨b, 1, none⟩ = false ∧ w.frozen? ⟨b, 2, none⟩ = false ∧ w.frozen? ⟨b, 3, none⟩ = false ∧ w.frozen? ⟨b, 4, none⟩ = false ∧ w.frozen? ⟨b, 5, none⟩ = false
theorem ResAt.below {B : Nat} {w w' : World} {b : Nat} (h : ResAt w b) (hb : Below B w w') (hlt : b < B) : ResAt w' b := by
  obtain ⟨⟨r0, r1, r2, r3, r4, r5⟩, q0, q1, q2, q3, q4, q5⟩ := h
  have c := fun o => hb.cell (p := ⟨b, o, none⟩) hlt
  have f := fun o => hb.frozen (p := ⟨b, o, none⟩) hlt
  exact ⟨⟨(c 0).trans r0, (c 1).trans r1, (c 2).trans r2, (c 3).trans r3, (c 4).trans r4, (c 5).trans r5⟩, (f 0).trans q0, (f 1).trans q1, (f 2).trans q2, (f 3).trans q3, (f 4).trans q4, (f 5).trans q5⟩
theorem ResAt.set {w : World} {b : Nat} (h : ResAt w b) {p : Addr} (hp : p.block ≠ b) (u : Value) : ResAt (w.setCell p u) b := by
  obtain ⟨⟨r0, r1, r2, r3, r4, r5⟩, q0, q1, q2, q3, q4, q5⟩ := h
  have c : ∀ o, (w.setCell p u).cell? ⟨b, o, none⟩ = w.cell? ⟨b, o, none⟩ := fun o => World.cell?_setCell_other _ _ _ _ (fun e => hp (by rw [e]))
  have f : ∀ o, (w.setCell p u).frozen? ⟨b, o, none⟩ = w.frozen? ⟨b, o, none⟩ := fun o => World.frozen?_setCell _ _ _ _
  exact ⟨⟨(c 0).trans r0, (c 1).trans r1, (c 2).trans r2, (c 3).trans r3, (c 4).trans r4, (c 5).trans r5⟩, (f 0).trans q0, (f 1).trans q1, (f 2).trans q2, (f 3).trans q3, (f 4).trans q4, (f 5).trans q5⟩
def TagAt (w : World) (b i : Nat) (N : List UInt8) (v : Value) : Prop := (w.cell? ⟨b, 0, none⟩ = some (.int .i64 1) ∧ w.cell? ⟨b, 1, none⟩ = some (.string (ofBytes N)) ∧ w.cell? ⟨b, 2, none⟩ = some v ∧ w.cell? ⟨b, 3, none⟩ = some (.bool false) ∧ w.cell? ⟨b, 4, none⟩ = some (.string ⟨#[]⟩) ∧ w.cell? ⟨b, 5, none⟩ = some (.int .i64 (i : Int))) ∧
  w.frozen? ⟨b, 2, none⟩ = false ∧ w.frozen? ⟨b, 3, none⟩ = false
theorem TagAt.below {B : Nat} {w w' : World} {b i : Nat} {N : List UInt8} {v : Value} (h : TagAt w b i N v) (hb : Below B w w') (hlt : b < B) : TagAt w' b i N v := by
  obtain ⟨⟨r0, r1, r2, r3, r4, r5⟩, q2, q3⟩ := h
  have c := fun o => hb.cell (p := ⟨b, o, none⟩) hlt
  have f := fun o => hb.frozen (p := ⟨b, o, none⟩) hlt
  exact ⟨⟨(c 0).trans r0, (c 1).trans r1, (c 2).trans r2, (c 3).trans r3, (c 4).trans r4, (c 5).trans r5⟩, (f 2).trans q2, (f 3).trans q3⟩
theorem TagAt.set2 {w : World} {b i : Nat} {N : List UInt8} {v : Value} (h : TagAt w b i N v) (u : Value) : TagAt (w.setCell ⟨b, 2, none⟩ u) b i N u := by
  obtain ⟨⟨r0, r1, r2, r3, r4, r5⟩, q2, q3⟩ := h
  have c : ∀ o, o ≠ 2 → (w.setCell ⟨b, 2, none⟩ u).cell? ⟨b, o, none⟩ = w.cell? ⟨b, o, none⟩ := fun o ho => World.cell?_setCell_other _ _ _ _ (fun e => ho (by injection e with _ e2; exact e2.symm))
  have f : ∀ o, (w.setCell ⟨b, 2, none⟩ u).frozen? ⟨b, o, none⟩ = w.frozen? ⟨b, o, none⟩ := fun o => World.frozen?_setCell _ _ _ _
  exact ⟨⟨(c 0 (by decide)).trans r0, (c 1 (by decide)).trans r1, World.cell?_setCell_same _ _ _ r2, (c 3 (by decide)).trans r3, (c 4 (by decide)).trans r4, (c 5 (by decide)).trans r5⟩, (f 2).trans q2, (f 3).trans q3⟩
theorem row_six {w : World} {b : Nat} {t : TypeId} {v : Value} {n : Nat} {xs : List Value} (h : w.ownsRow (b + 2) t 4 v n xs) (u0 u1 u2 u3 u4 u5 : Value) : ((((((w.setCell ⟨b, 0, none⟩ u0).setCell ⟨b, 1, none⟩ u1).setCell ⟨b, 2, none⟩ u2).setCell ⟨b, 3, none⟩ u3).setCell ⟨b, 4, none⟩ u4).setCell ⟨b, 5, none⟩ u5).ownsRow b t 4 v n xs :=
  Go.Joins.ownsRow_le (ownsRow_setCell_below (ownsRow_setCell_below (ownsRow_setCell_below (ownsRow_setCell_below (ownsRow_setCell_below (ownsRow_setCell_below h (a := ⟨b, 0, none⟩) (by simp) _) (a := ⟨b, 1, none⟩) (by simp) _) (a := ⟨b, 2, none⟩) (by simp) _) (a := ⟨b, 3, none⟩) (by simp) _) (a := ⟨b, 4, none⟩) (by simp) _) (a := ⟨b, 5, none⟩) (by simp) _) (by omega)
theorem below_six {B : Nat} {w0 w : World} (h : Below B w0 w) (u0 u1 u2 u3 u4 u5 : Value) : Below B w0 ((((((w.setCell ⟨B, 0, none⟩ u0).setCell ⟨B, 1, none⟩ u1).setCell ⟨B, 2, none⟩ u2).setCell ⟨B, 3, none⟩ u3).setCell ⟨B, 4, none⟩ u4).setCell ⟨B, 5, none⟩ u5) :=
  ((((((h.setCell (p := ⟨B, 0, none⟩) (Nat.le_refl _) _).setCell (p := ⟨B, 1, none⟩) (Nat.le_refl _) _).setCell (p := ⟨B, 2, none⟩) (Nat.le_refl _) _).setCell (p := ⟨B, 3, none⟩) (Nat.le_refl _) _).setCell (p := ⟨B, 4, none⟩) (Nat.le_refl _) _).setCell (p := ⟨B, 5, none⟩) (Nat.le_refl _) _)
def StartIs (w0 : World) (R : StartR) (i : Nat) (e : Ending) (w' : World) : Prop := ∃ v, e = .returned (.tuple #[.agg #[.int .i64 1, .string (ofBytes R.nm), v, .bool R.em, .string ⟨#[]⟩, .int .i64 (i : Int)], .int .i64 R.p1, .int .i64 R.p2]) ∧ w'.ownsRow w0.heap.size 43 4 v R.al.length (attrsCells R.al) ∧ Below w0.heap.size w0 w'
theorem kinfo_attr : (Tryd.prog.info? 43).map (fun i => (i.zero, i.size, i.bytes)) = some (some (.agg #[.string ⟨#[]⟩, .string ⟨#[]⟩, .string ⟨#[]⟩, .int .i64 0]), 4, 56) := by kernel_rfl
theorem attr_one (x : AttrD) : ∀ u ∈ attrCells x, u.oneCell' = true := by
  intro u hu
  simp [attrCells] at hu
  rcases hu with rfl | rfl | rfl | rfl <;> rfl
theorem attr_new (w : World) (t : TypeId) (x : AttrD) : ∀ j u, (attrCells x)[j]? = some u → (w.alloc (.cells #[.string x.sp, .string x.nm, .string x.va, .int .i64 x.at'] t)).cell? ((⟨w.heap.size, 0, none⟩ : Addr).add j) = some u := by
  intro j u hu
  rw [addr_add, World.cell?_alloc_at _ _ _ _ rfl, List.getElem?_toArray]
  exact hu
set_option maxRecDepth 100000 in
set_option maxHeartbeats 8000000 in
theorem tref_start (s : ByteArray) (i : Nat) (w : World) (hs : s.size ≤ 1000000) (hi : i + 1 ≤ s.size) :
    Calls Tryd.prog 84 #[.string s, .int .i64 i] w fun e w' => StartIs w (startP s i) i e w' := by
  obtain ⟨i0, hi0, hi1, hi3, hi4⟩ := info_parts kinfo_attr
  have hsl : s.data.toList.length = s.size := by simp
  have HSL := Lib.hid hsl
  have c1 : ∀ wx, _ := fun wx => tref_name s (i + 1) wx hs (by omega)
  rw [show ((i + 1 : Nat) : Int) = (i : Int) + 1 by omega] at c1
  have hb := nmP_le s (i + 1) hi
  have hE : startP s i = if nmP s (i + 1) = i + 1 then ⟨[], [], false, (misP s.size i ((i + 1 : Nat) : Int)).1, (misP s.size i ((i + 1 : Nat) : Int)).2⟩
    else startGo s i ((s.data.toList.drop (i + 1)).take (nmP s (i + 1) - (i + 1))) (s.size + 1) (nmP s (i + 1)) [] := rfl
  generalize startP s i = SP at *
  generalize nmP s (i + 1) = n at *
  obtain ⟨hb1, hb2⟩ := hb
  have hi2 : (i : Int) ≤ 1000000 := by omega
  have hn2 : (n : Int) ≤ 1000000 := by omega
  have hsc : ∀ wx, _ := fun wx => slice_mid s ((i : Int) + 1) (n : Int) (by omega) (by omega) (by omega) wx
  rw [show ((i : Int) + 1).toNat = i + 1 by omega, Int.toNat_natCast, kext] at hsc
  generalize (s.data.toList.drop (i + 1)).take (n - (i + 1)) = N at *
  clear hsl
  go_enter Tryd.func84, Tryd.ntmps84
  go_wp2_with fail
  refine (c1 _).mono ?_
  rintro e w1 ⟨rfl, b1⟩
  have cc : ∀ (o : Nat) (u : Value), (#[Value.int .i64 1, .string ⟨#[]⟩, .slice none 0 0, .bool false, .string ⟨#[]⟩, .int .i64 (i : Int)] : Array Value)[o]? = some u → w1.cell? ⟨w.heap.size + 1, o, none⟩ = some u ∧ w1.frozen? ⟨w.heap.size + 1, o, none⟩ = false := by
    intro o u hu
    refine ⟨(b1.cell (p := ⟨w.heap.size + 1, o, none⟩) (by simp)).trans ?_, (b1.frozen (p := ⟨w.heap.size + 1, o, none⟩) (by simp)).trans ?_⟩
    · rw [World.cell?_alloc_at _ _ _ _ (by simp)]; exact hu
    · rw [World.frozen?_alloc_at _ _ _ _ (by simp)]
  have rr : ∀ (o : Nat) (u : Value), (#[Value.int .i64 0, .string ⟨#[]⟩, .slice none 0 0, .bool false, .string ⟨#[]⟩, .int .i64 0] : Array Value)[o]? = some u → w1.cell? ⟨w.heap.size, o, none⟩ = some u ∧ w1.frozen? ⟨w.heap.size, o, none⟩ = false := by
    intro o u hu
    refine ⟨(b1.cell (p := ⟨w.heap.size, o, none⟩) (by simp; omega)).trans ?_, (b1.frozen (p := ⟨w.heap.size, o, none⟩) (by simp; omega)).trans ?_⟩
    · rw [World.cell?_alloc_past _ _ _ (by simp), World.cell?_alloc_at _ _ _ _ rfl]; exact hu
    · rw [World.frozen?_alloc_past _ _ _ (by simp), World.frozen?_alloc_at _ _ _ _ rfl]
  obtain ⟨d0, p0⟩ := cc 0 _ rfl
  obtain ⟨d1, p1⟩ := cc 1 _ rfl
  obtain ⟨d2, p2⟩ := cc 2 _ rfl
  obtain ⟨d3, p3⟩ := cc 3 _ rfl
  obtain ⟨d4, p4⟩ := cc 4 _ rfl
  obtain ⟨d5, p5⟩ := cc 5 _ rfl
  obtain ⟨r0, q0⟩ := rr 0 _ rfl
  obtain ⟨r1, q1⟩ := rr 1 _ rfl
  obtain ⟨r2, q2⟩ := rr 2 _ rfl
  obtain ⟨r3, q3⟩ := rr 3 _ rfl
  obtain ⟨r4, q4⟩ := rr 4 _ rfl
  obtain ⟨r5, q5⟩ := rr 5 _ rfl
  clear rr cc
  simp only [List.getElem_toArray, List.getElem_cons_zero, List.getElem_cons_succ] at d0 d1 d2 d3 d4 d5 r0 r1 r2 r3 r4 r5
  have hbw : Below w.heap.size w w1 := ((((Below.refl _ _).alloc (Nat.le_refl _) _).alloc (by simp) _)).trans (b1.mono (by simp; omega))
  have hsz1 := b1.size
  have HSZ := Lib.hid (show w.heap.size + 2 ≤ w1.heap.size by simpa using hsz1)
  clear hsz1 b1 c1
  by_cases hn : n = i + 1
  · rw [if_pos hn] at hE
    have hm : ∀ wx, _ := fun wx => tref_missing s i (n : Int) wx
    rw [hn] at hm
    generalize misP s.size i ((i + 1 : Nat) : Int) = mm at *
    obtain ⟨m1, m2⟩ := mm
    simp only at hm hE
    subst hn
    rw [show ((i + 1 : Nat) : Int) = (i : Int) + 1 by omega] at hm
    subst hE
    have HB := Lib.hid hbw
    clear hbw hsc
    (go_wp2_with fail); (refine (hm _).mono ?_); (rintro e w' ⟨rfl, rfl⟩)
    go_wp2
    exact bodyPost_ret (v := .tuple #[.agg #[.int .i64 1, .string ⟨#[]⟩, .slice none 0 0, .bool false, .string ⟨#[]⟩, .int .i64 i], .int .i64 m1, .int .i64 m2]) (by simp [results, Tryd.results84, go_sem, cell_set_same, r0, r1, r2, r3, r4, r5]) rfl ⟨_, rfl, row_six (World.ownsRow_nil _ _ _ _) _ _ _ _ _ _, below_six HB.out _ _ _ _ _ _⟩
  · rw [if_neg hn] at hE
    have hlt : (i : Int) + 1 < (n : Int) := by omega
    have hnb : ((n : Int) == (i : Int) + 1) = false := by simp; omega
    have hbw2 : Below w.heap.size w (w1.setCell ⟨w.heap.size + 1, 1, none⟩ (.string (ofBytes N))) := hbw.setCell (p := ⟨w.heap.size + 1, 1, none⟩) (by simp) _
    have hsz2 : w.heap.size + 2 ≤ (w1.setCell ⟨w.heap.size + 1, 1, none⟩ (.string (ofBytes N))).heap.size := by simpa using HSZ.out
    have hres : ResAt (w1.setCell ⟨w.heap.size + 1, 1, none⟩ (.string (ofBytes N))) w.heap.size := ResAt.set ⟨⟨r0, r1, r2, r3, r4, r5⟩, q0, q1, q2, q3, q4, q5⟩ (by simp) _
    have htag : TagAt (w1.setCell ⟨w.heap.size + 1, 1, none⟩ (.string (ofBytes N))) (w.heap.size + 1) i N (.slice none 0 0) := by
      have c : ∀ o, o ≠ 1 → (w1.setCell ⟨w.heap.size + 1, 1, none⟩ (.string (ofBytes N))).cell? ⟨w.heap.size + 1, o, none⟩ = w1.cell? ⟨w.heap.size + 1, o, none⟩ := fun o ho => World.cell?_setCell_other _ _ _ _ (fun e => ho (by injection e with _ e2; exact e2.symm))
      have f : ∀ o, (w1.setCell ⟨w.heap.size + 1, 1, none⟩ (.string (ofBytes N))).frozen? ⟨w.heap.size + 1, o, none⟩ = w1.frozen? ⟨w.heap.size + 1, o, none⟩ := fun o => World.frozen?_setCell _ _ _ _
      exact ⟨⟨(c 0 (by decide)).trans d0, World.cell?_setCell_same _ _ _ d1, (c 2 (by decide)).trans d2, (c 3 (by decide)).trans d3, (c 4 (by decide)).trans d4, (c 5 (by decide)).trans d5⟩, (f 2).trans p2, (f 3).trans p3⟩
    have HE0 := Lib.hid hE
    have HR := Lib.hid hres
    have HT := Lib.hid htag
    have HB := Lib.hid hbw2
    have HZ := Lib.hid hsz2
    clear hE hres htag hbw2 hsz2 hbw r0 r1 r2 r3 r4 r5 q0 q1 q2 q3 q4 q5
    go_wp2
    go_loopw [8] (fun q wr => ∃ (k f : Nat) (acc : List AttrD) (A : Option Addr) (c : Nat), q = .int .i64 k ∧ i < k ∧ k ≤ s.size ∧ SP = startGo s i N f k acc ∧ s.size - k < f ∧ TagAt wr (w.heap.size + 1) i N (.slice A acc.length c) ∧ ResAt wr w.heap.size ∧ wr.ownsRow (w.heap.size + 2) 43 4 (.slice A acc.length c) acc.length (attrsCells acc) ∧ Below w.heap.size w wr ∧ w.heap.size + 2 ≤ wr.heap.size ∧ acc.length ≤ k) (fun q _ => s.size - (intOf q).toNat)
    case atStart => exact ⟨n, s.size + 1, [], none, 0, rfl, by omega, hb2, HE0.out, by omega, HT.out, HR.out, World.ownsRow_nil _ _ _ _, HB.out, HZ.out, Nat.zero_le _⟩
    case round =>
      clear d0 d1 d2 d3 d4 d5 p0 p1 p2 p3 p4 p5 HSZ HE0 HR HT HB HZ hsc hn hlt hn2
      obtain ⟨k, f, acc, A, c, rfl, hik, hk, hst, hf, htag, hres, hown, hbel, hz2, hal⟩ := hrel
      obtain ⟨f, rfl⟩ : ∃ g, f = g + 1 := ⟨f - 1, by omega⟩
      rw [startGo] at hst
      have c2 : ∀ wx, _ := fun wx => tref_spaces s k wx hs (by omega)
      have hkm := spP_le s.data.toList k (by rw [HSL.out]; exact hk)
      rw [HSL.out] at hkm
      generalize spP s.data.toList k = m at *
      obtain ⟨hkm1, hkm2⟩ := hkm
      have hk3 : (k : Int) ≤ 1000000 := by omega
      have hm3 : (m : Int) ≤ 1000000 := by omega
      have cH1 : ∀ wx, _ := fun wx => tref_Has s ⟨#[62]⟩ (m : Int) wx hs (by decide) (by decide) (by omega)
      have cH2 : ∀ wx, _ := fun wx => tref_Has s ⟨#[47, 62]⟩ (m : Int) wx hs (by decide) (by decide) (by omega)
      have cH3 : ∀ wx, _ := fun wx => tref_Has s ⟨#[47]⟩ (m : Int) wx hs (by decide) (by decide) (by omega)
      rw [show (⟨#[62]⟩ : ByteArray).data.toList = [62] from rfl] at cH1
      rw [show (⟨#[47, 62]⟩ : ByteArray).data.toList = [47, 62] from rfl] at cH2
      rw [show (⟨#[47]⟩ : ByteArray).data.toList = [47] from rfl] at cH3
      obtain ⟨⟨d0, d1, d2, d3, d4, d5⟩, p2, p3⟩ := id htag
      obtain ⟨⟨r0, r1, r2, r3, r4, r5⟩, q0, q1, q2, q3, q4, q5⟩ := id hres
      have HT := Lib.hid htag
      have HR := Lib.hid hres
      have HO := Lib.hid hown
      have HB := Lib.hid hbel
      clear htag hres hown hbel
      rcases h1 : hasP s.data.toList (m : Int) [62] with _ | _
      · rw [h1] at hst cH1
        rw [if_neg (by decide)] at hst
        rcases h2 : hasP s.data.toList (m : Int) [47, 62] with _ | _
        · rw [h2] at hst cH2
          rw [if_neg (by decide)] at hst
          rcases h3 : hasP s.data.toList (m : Int) [47] with _ | _
          · rw [h3] at hst cH3
            rw [if_neg (by decide)] at hst
            by_cases hmk : m = k
            · rw [if_pos hmk] at hst
              have hm : ∀ wx, _ := fun wx => tref_missing s i (k : Int) wx
              generalize misP s.size i (k : Int) = mm at *
              obtain ⟨m1, m2⟩ := mm
              simp only at hm hst
              subst hst
              subst hmk
              clear h1 h2 h3
              (go_wp2_with fail); (refine (c2 _).mono ?_); (rintro e w' ⟨rfl, rfl⟩)
              (go_wp2_with fail); (refine (cH1 _).mono ?_); (rintro e w' ⟨rfl, rfl⟩)
              (go_wp2_with fail); (refine (cH2 _).mono ?_); (rintro e w' ⟨rfl, rfl⟩)
              (go_wp2_with fail); (refine (cH3 _).mono ?_); (rintro e w' ⟨rfl, rfl⟩)
              (go_wp2_with fail); (refine (hm _).mono ?_); (rintro e w' ⟨rfl, rfl⟩)
              go_wp2
              exact bodyPost_ret (v := .tuple #[.agg #[.int .i64 1, .string (ofBytes N), .slice A acc.length c, .bool false, .string ⟨#[]⟩, .int .i64 i], .int .i64 m1, .int .i64 m2]) (by simp [results, Tryd.results84, go_sem, cell_set_same, r0, r1, r2, r3, r4, r5]) rfl ⟨_, rfl, row_six HO.out _ _ _ _ _ _, below_six HB.out _ _ _ _ _ _⟩
            · rw [if_neg hmk] at hst
              have cA : ∀ wx, _ := fun wx => tref_attr s i m wx hs (by omega) hkm2
              have hok := attrP_ok s i m hkm2
              generalize attrP s i m = rr at *
              obtain ⟨⟨an, av⟩, x1, x2⟩ := rr
              simp only [attrV] at cA hok hst
              have hmk2 : ((m : Int) == (k : Int)) = false := by simp; omega
              by_cases hx : x2 = 0
              · rw [if_neg (by simpa using hx)] at hst
                obtain ⟨z, rfl, hz1, hz3⟩ := hok hx
                subst hx
                clear h1 h2 h3 hok hmk d0 d1 d2 d3 d4 d5 r0 r1 r2 r3 r4 r5 p2 p3 q0 q1 q2 q3 q4 q5
                (go_wp2_with fail); (refine (c2 _).mono ?_); (rintro e w' ⟨rfl, rfl⟩)
                (go_wp2_with fail); (refine (cH1 _).mono ?_); (rintro e w' ⟨rfl, rfl⟩)
                (go_wp2_with fail); (refine (cH2 _).mono ?_); (rintro e w' ⟨rfl, rfl⟩)
                (go_wp2_with fail); (refine (cH3 _).mono ?_); (rintro e w' ⟨rfl, rfl⟩)
                go_wp2_with fail
                refine (cA _).mono ?_
                rintro e w2 ⟨rfl, b2⟩
                have b3 : Below wr.heap.size wr (w2.alloc (.cells #[.string ⟨#[]⟩, .string (ofBytes an), .string (ofBytes av), .int .i64 (m : Int)] 43)) := b2.alloc b2.size _
                have HT2 := Lib.hid (HT.out.below b3 (by omega))
                have HR2 := Lib.hid (HR.out.below b3 (by omega))
                have HO2 := Lib.hid (row_below HO.out b3)
                have HB2 := Lib.hid (HB.out.trans (b3.mono HB.out.size))
                have hz4 : w.heap.size + 2 ≤ w2.heap.size := Nat.le_trans hz2 b2.size
                have aa : ∀ (o : Nat) (u : Value), (#[.string ⟨#[]⟩, .string (ofBytes an), .string (ofBytes av), .int .i64 (m : Int)] : Array Value)[o]? = some u → (w2.alloc (.cells #[.string ⟨#[]⟩, .string (ofBytes an), .string (ofBytes av), .int .i64 (m : Int)] 43)).cell? ⟨w2.heap.size, o, none⟩ = some u := by
                  intro o u hu
                  rw [World.cell?_alloc_at _ _ _ _ rfl]; exact hu
                have AA := Lib.hid aa
                have hz5 : w2.heap.size < (w2.alloc (.cells #[.string ⟨#[]⟩, .string (ofBytes an), .string (ofBytes av), .int .i64 (m : Int)] 43)).heap.size := by simp
                clear HT HR HO HB b2 b3 aa
                go_wp2
                generalize w2.alloc (.cells #[.string ⟨#[]⟩, .string (ofBytes an), .string (ofBytes av), .int .i64 (m : Int)] 43) = w3 at *
                generalize w2.heap.size = ba at *
                go_loopw [19] (fun q wx => ∃ j : Nat, j ≤ acc.length ∧ q = .int .i64 j ∧ (∀ x ∈ acc.take j, x.nm ≠ ofBytes an) ∧ Below w3.heap.size w3 wx) (fun q _ => acc.length - (intOf q).toNat)
                case atStart => exact ⟨0, Nat.zero_le _, rfl, by simp, Below.refl _ _⟩
                case round =>
                  obtain ⟨j, hj, rfl, hno, hwx⟩ := hrel
                  have a0 := (hwx.cell (p := ⟨ba, 0, none⟩) hz5).trans (AA.out 0 _ rfl)
                  have a1 := (hwx.cell (p := ⟨ba, 1, none⟩) hz5).trans (AA.out 1 _ rfl)
                  have a2 := (hwx.cell (p := ⟨ba, 2, none⟩) hz5).trans (AA.out 2 _ rfl)
                  have a3 := (hwx.cell (p := ⟨ba, 3, none⟩) hz5).trans (AA.out 3 _ rfl)
                  simp only [List.getElem_toArray, List.getElem_cons_zero, List.getElem_cons_succ] at a0 a1 a2 a3
                  have HT3 := Lib.hid (HT2.out.below hwx (by omega))
                  have HR3 := Lib.hid (HR2.out.below hwx (by omega))
                  have HO3 := Lib.hid (row_below HO2.out hwx)
                  have HB3 := Lib.hid (HB2.out.trans (hwx.mono HB2.out.size))
                  obtain ⟨⟨d0, d1, d2, d3, d4, d5⟩, p2, p3⟩ := HT3.out
                  by_cases hlt : j < acc.length
                  · have hjz : (j : Int) < (acc.length : Int) := by omega
                    obtain ⟨ad, rfl, e0, e1, e2, e3⟩ := (attrs_of_row HO3.out) j hlt
                    obtain ⟨y, hy⟩ : ∃ y, acc[j] = y := ⟨_, rfl⟩
                    rw [hy] at e0 e1 e2 e3
                    obtain ⟨cc, hcc⟩ : ∃ cc, ad.add (j * 4) = cc := ⟨_, rfl⟩
                    rw [hcc] at e0 e1 e2 e3
                    simp only [Addr.add, Nat.reduceEqDiff, ↓reduceIte] at e1 e2 e3
                    have hq : (y.nm.toList == (ofBytes an).toList) = decide (y.nm = ofBytes an) := by
                      rw [Bool.eq_iff_iff, beq_iff_eq, decide_eq_true_eq]
                      exact ⟨fun h => kstr_ext (by rwa [ByteArray.toList_eq, ByteArray.toList_eq] at h), fun h => by rw [h]⟩
                    have hyin : y ∈ acc := by rw [← hy]; exact List.getElem_mem _
                    by_cases hyn : y.nm = ofBytes an
                    · rw [decide_eq_true hyn] at hq
                      rw [if_pos ⟨y, hyin, hyn⟩] at hst
                      obtain ⟨⟨r0, r1, r2, r3, r4, r5⟩, q0, q1, q2, q3, q4, q5⟩ := HR3.out
                      clear hyn hyin hno hwx e0 e2 e3 HT2 HR2 HO2 HB2 AA
                      subst hst
                      generalize y.nm = yn at *
                      generalize ofBytes an = AN at *
                      go_wp2_with fail
                      go_quiet (fail)
                      go_wp2
                      go_region
                      go_wp2
                      exact bodyPost_ret (v := .tuple #[.agg #[.int .i64 1, .string (ofBytes N), .slice (some ad) acc.length c, .bool false, .string ⟨#[]⟩, .int .i64 i], .int .i64 m, .int .i64 10]) (by simp [results, Tryd.results84, go_sem, cell_set_same, r0, r1, r2, r3, r4, r5]) rfl ⟨_, rfl, row_six (row_below HO3.out (below_drewN (Below.refl _ _) _)) _ _ _ _ _ _, below_six (below_drewN HB3.out _) _ _ _ _ _ _⟩
                    · rw [decide_eq_false hyn] at hq
                      have hno2 : ∀ x ∈ acc.take (j + 1), x.nm ≠ ofBytes an := by
                        intro x hx
                        rw [List.take_add_one, List.getElem?_eq_getElem hlt, hy] at hx
                        rcases List.mem_append.1 hx with h | h
                        · exact hno x h
                        · obtain rfl : x = y := by simpa using h
                          exact hyn
                      have HN := Lib.hid hno2
                      have HW := Lib.hid hwx
                      clear hyn hyin hno hwx e0 e2 e3 HT2 HR2 HO2 HB2 AA hno2 hst
                      generalize y.nm = yn at *
                      generalize hAN : ofBytes an = AN at *
                      go_wp2_with fail
                      go_quiet (fail)
                      go_wp2
                      go_roundw
                      case rel => exact ⟨j + 1, by omega, by go_num, HN.out, below_drewN HW.out _⟩
                      case measure => simp [intOf]; omega
                  · obtain rfl : j = acc.length := by omega
                    rw [List.take_of_length_le (Nat.le_refl _)] at hno
                    rw [if_neg (by rintro ⟨x, hx, hxn⟩; exact hno x hx hxn)] at hst
                    rw [Int.toNat_natCast] at hst
                    have hown3 := HO3.out
                    have hzx : w.heap.size + 2 ≤ wr.heap.size := Nat.le_trans (by omega) hwx.size
                    have HST := Lib.hid hst
                    clear hno hwx HT2 HR2 HO2 HB2 AA hst HO3
                    go_wp2_with (at_builtin; refine wpList_append_own _ rfl (.tmp 126) (.tmp 128) 26 rfl (w.heap.size + 2) 43 i0 (.agg #[.string ⟨#[]⟩, .string ⟨#[]⟩, .string ⟨#[]⟩, .int .i64 0]) 4 56 Tryd.underlying26 hi0 hi1 hi3 hi4 rfl (by decide) (.slice A acc.length c) acc.length (attrsCells acc) rfl (hown3.alloc _) ⟨wr.heap.size, 0, none⟩ 1 1 (attrCells (attrOf an av m)) rfl rfl (attr_new _ _ _) (attr_one _) (by unfold maxLen; omega) (by omega) (by simp; omega) ?_; intro v' w4 hown' hgr' _; obtain ⟨A', c', rfl⟩ := own_form hown'; have hb4 : Below (w.heap.size + 2) wr w4 := ((Below.refl _ _).alloc hzx _).grown hgr' (by simp; omega) (fun g hg => (hown3.lt g hg).1); have HT4 := HT3.out.below hb4 (by omega); have HR4 := HR3.out.below hb4 (by omega); have t2 := HT4.1.2.2.1; have s2 := HT4.2.1; have HT5 := Lib.hid HT4; have HR5 := Lib.hid HR4; have HB4 := Lib.hid hb4; clear HT4 HR4 hb4 hgr')
                    have hz6 : w.heap.size + 2 ≤ w4.heap.size := Nat.le_trans hzx HB4.out.size
                    have hb5 : Below w.heap.size w w4 := HB3.out.trans (HB4.out.mono (by omega))
                    have hown5 : w4.ownsRow (w.heap.size + 2) 43 4 (.slice A' (acc ++ [attrOf an av m]).length c') (acc ++ [attrOf an av m]).length (attrsCells (acc ++ [attrOf an av m])) := by
                      rw [attrsCells_app, List.length_append]
                      exact hown'
                    have hT6 : TagAt (w4.setCell ⟨w.heap.size + 1, 2, none⟩ (.slice A' (acc.length + 1) c')) (w.heap.size + 1) i N (.slice A' (acc ++ [attrOf an av m]).length c') := by
                      rw [List.length_append]
                      exact HT5.out.set2 _
                    go_wp2
                    go_roundw
                    case rel => exact ⟨z, f, acc ++ [attrOf an av m], A', c', by go_num, by omega, hz3, HST.out, by omega, hT6, HR5.out.set (by simp) _, ownsRow_setCell_below hown5 (a := ⟨w.heap.size + 1, 2, none⟩) (by simp) _, hb5.setCell (p := ⟨w.heap.size + 1, 2, none⟩) (by simp) _, by simpa using hz6, by rw [List.length_append, List.length_singleton]; omega⟩
                    case measure => simp [intOf]; omega
              · rw [if_pos hx] at hst
                have hxb : (x2 != 0) = true := by simpa using hx
                subst hst
                clear h1 h2 h3 hok hx d0 d1 d2 d3 d4 d5 r0 r1 r2 r3 r4 r5 p2 p3 q0 q1 q2 q3 q4 q5 hmk
                (go_wp2_with fail); (refine (c2 _).mono ?_); (rintro e w' ⟨rfl, rfl⟩)
                (go_wp2_with fail); (refine (cH1 _).mono ?_); (rintro e w' ⟨rfl, rfl⟩)
                (go_wp2_with fail); (refine (cH2 _).mono ?_); (rintro e w' ⟨rfl, rfl⟩)
                (go_wp2_with fail); (refine (cH3 _).mono ?_); (rintro e w' ⟨rfl, rfl⟩)
                go_wp2_with fail
                refine (cA _).mono ?_
                rintro e w2 ⟨rfl, b2⟩
                have b3 : Below wr.heap.size wr (w2.alloc (.cells #[.string ⟨#[]⟩, .string (ofBytes an), .string (ofBytes av), .int .i64 (m : Int)] 43)) := b2.alloc b2.size _
                obtain ⟨⟨d0, d1, d2, d3, d4, d5⟩, p2, p3⟩ := HT.out.below b3 (by omega)
                obtain ⟨⟨r0, r1, r2, r3, r4, r5⟩, q0, q1, q2, q3, q4, q5⟩ := HR.out.below b3 (by omega)
                have HO2 := Lib.hid (row_below HO.out b3)
                have HB2 := Lib.hid (HB.out.trans (b3.mono HB.out.size))
                clear HT HR HO HB b2 b3
                go_wp2
                exact bodyPost_ret (v := .tuple #[.agg #[.int .i64 1, .string (ofBytes N), .slice A acc.length c, .bool false, .string ⟨#[]⟩, .int .i64 i], .int .i64 x1, .int .i64 x2]) (by simp [results, Tryd.results84, go_sem, cell_set_same, r0, r1, r2, r3, r4, r5]) rfl ⟨_, rfl, row_six HO2.out _ _ _ _ _ _, below_six HB2.out _ _ _ _ _ _⟩
          · rw [h3] at hst cH3
            rw [if_pos rfl] at hst
            have hm : ∀ wx, _ := fun wx => tref_missing s i ((m : Int) + 1) wx
            generalize misP s.size i ((m : Int) + 1) = mm at *
            obtain ⟨m1, m2⟩ := mm
            simp only at hm hst
            subst hst
            clear h1 h2 h3
            (go_wp2_with fail); (refine (c2 _).mono ?_); (rintro e w' ⟨rfl, rfl⟩)
            (go_wp2_with fail); (refine (cH1 _).mono ?_); (rintro e w' ⟨rfl, rfl⟩)
            (go_wp2_with fail); (refine (cH2 _).mono ?_); (rintro e w' ⟨rfl, rfl⟩)
            (go_wp2_with fail); (refine (cH3 _).mono ?_); (rintro e w' ⟨rfl, rfl⟩)
            (go_wp2_with fail); (refine (hm _).mono ?_); (rintro e w' ⟨rfl, rfl⟩)
            go_wp2
            exact bodyPost_ret (v := .tuple #[.agg #[.int .i64 1, .string (ofBytes N), .slice A acc.length c, .bool false, .string ⟨#[]⟩, .int .i64 i], .int .i64 m1, .int .i64 m2]) (by simp [results, Tryd.results84, go_sem, cell_set_same, r0, r1, r2, r3, r4, r5]) rfl ⟨_, rfl, row_six HO.out _ _ _ _ _ _, below_six HB.out _ _ _ _ _ _⟩
        · rw [h2] at hst cH2
          rw [if_pos rfl] at hst
          subst hst
          clear h1 h2
          (go_wp2_with fail); (refine (c2 _).mono ?_); (rintro e w' ⟨rfl, rfl⟩)
          (go_wp2_with fail); (refine (cH1 _).mono ?_); (rintro e w' ⟨rfl, rfl⟩)
          (go_wp2_with fail); (refine (cH2 _).mono ?_); (rintro e w' ⟨rfl, rfl⟩)
          go_wp2
          exact bodyPost_ret (v := .tuple #[.agg #[.int .i64 1, .string (ofBytes N), .slice A acc.length c, .bool true, .string ⟨#[]⟩, .int .i64 i], .int .i64 ((m : Int) + 2), .int .i64 0]) (by simp [results, Tryd.results84, go_sem, cell_set_same, r0, r1, r2, r3, r4, r5]) rfl ⟨_, rfl, row_six (ownsRow_setCell_below HO.out (a := ⟨w.heap.size + 1, 3, none⟩) (by simp) _) _ _ _ _ _ _, below_six (HB.out.setCell (p := ⟨w.heap.size + 1, 3, none⟩) (by simp) _) _ _ _ _ _ _⟩
      · rw [h1] at hst cH1
        rw [if_pos rfl] at hst
        subst hst
        clear h1
        (go_wp2_with fail); (refine (c2 _).mono ?_); (rintro e w' ⟨rfl, rfl⟩)
        (go_wp2_with fail); (refine (cH1 _).mono ?_); (rintro e w' ⟨rfl, rfl⟩)
        go_wp2
        exact bodyPost_ret (v := .tuple #[.agg #[.int .i64 1, .string (ofBytes N), .slice A acc.length c, .bool false, .string ⟨#[]⟩, .int .i64 i], .int .i64 ((m : Int) + 1), .int .i64 0]) (by simp [results, Tryd.results84, go_sem, cell_set_same, r0, r1, r2, r3, r4, r5]) rfl ⟨_, rfl, row_six HO.out _ _ _ _ _ _, below_six HB.out _ _ _ _ _ _⟩
structure TokD where
  kind : Int
  nm : List UInt8
  al : List AttrD
  em : Bool
  tx : List UInt8
  at' : Int
def tokZ : TokD := ⟨0, [], [], false, [], 0⟩
def tokT (tx : List UInt8) (a : Int) : TokD := ⟨3, [], [], false, tx, a⟩
def tokVal (t : TokD) (v : Value) : Value := .agg #[.int .i64 t.kind, .string (ofBytes t.nm), v, .bool t.em, .string (ofBytes t.tx), .int .i64 t.at']
def dataEnd (s : ByteArray) (i : Nat) : Nat := if nextP s.data.toList i [60] < 0 then s.size else (nextP s.data.toList i [60]).toNat
def cdataP (s : ByteArray) (i : Nat) : TokD × Int × Int :=
  if (skipP s.data.toList i 9 [93, 93, 62]).2 ≠ 0 then (tokZ, (skipP s.data.toList i 9 [93, 93, 62]).1, (skipP s.data.toList i 9 [93, 93, 62]).2)
  else (tokT (linesP ((s.data.toList.drop (i + 9)).take ((skipP s.data.toList i 9 [93, 93, 62]).1.toNat - 3 - (i + 9)))) i, (skipP s.data.toList i 9 [93, 93, 62]).1, 0)
def dataP (s : ByteArray) (i : Nat) : TokD × Int × Int := (tokT (contP s.data.toList i (dataEnd s i) false).1 i, (contP s.data.toList i (dataEnd s i) false).2.1, (contP s.data.toList i (dataEnd s i) false).2.2)
def consP (s : ByteArray) (i : Nat) : TokD × Int × Int :=
  if hasP s.data.toList (i : Int) [60, 63] then (tokT [] 0, (skipP s.data.toList i 2 [63, 62]).1, (skipP s.data.toList i 2 [63, 62]).2)
  else if hasP s.data.toList (i : Int) [60, 33, 45, 45] then (tokT [] 0, (skipP s.data.toList i 4 [45, 45, 62]).1, (skipP s.data.toList i 4 [45, 45, 62]).2)
  else if hasP s.data.toList (i : Int) [60, 33, 91, 67, 68, 65, 84, 65, 91] then cdataP s i
  else if hasP s.data.toList (i : Int) [60, 33, 68, 79, 67, 84, 89, 80, 69] then (tokZ, (i : Int), 11)
  else if hasP s.data.toList (i : Int) [60, 33] then (tokZ, (i : Int), 7)
  else if hasP s.data.toList (i : Int) [60, 47] then (⟨2, (endP s i).1, [], false, [], i⟩, (endP s i).2.1, (endP s i).2.2)
  else if hasP s.data.toList (i : Int) [60] then (⟨1, (startP s i).nm, (startP s i).al, (startP s i).em, [], i⟩, (startP s i).p1, (startP s i).p2)
  else dataP s i
def ConsIs (w0 : World) (R : TokD × Int × Int) (e : Ending) (w' : World) : Prop := ∃ v, e = .returned (.tuple #[tokVal R.1 v, .int .i64 R.2.1, .int .i64 R.2.2]) ∧ w'.ownsRow w0.heap.size 43 4 v R.1.al.length (attrsCells R.1.al) ∧ Below w0.heap.size w0 w'
theorem hasP_len {l : List UInt8} {i : Nat} {t : List UInt8} (h : hasP l (i : Int) t = true) (ht : t ≠ []) : i + t.length ≤ l.length := by
  unfold hasP at h
  rw [Bool.and_eq_true, Int.toNat_natCast] at h
  have h2 := (List.isPrefixOf_iff_prefix.1 h.2).length_le
  rw [List.length_drop] at h2
  have : 0 < t.length := List.length_pos_iff.2 ht
  omega
theorem row_six1 {w : World} {b : Nat} {t : TypeId} {v : Value} {n : Nat} {xs : List Value} (h : w.ownsRow (b + 1) t 4 v n xs) (u0 u1 u2 u3 u4 u5 : Value) : ((((((w.setCell ⟨b, 0, none⟩ u0).setCell ⟨b, 1, none⟩ u1).setCell ⟨b, 2, none⟩ u2).setCell ⟨b, 3, none⟩ u3).setCell ⟨b, 4, none⟩ u4).setCell ⟨b, 5, none⟩ u5).ownsRow b t 4 v n xs :=
  Go.Joins.ownsRow_le (ownsRow_setCell_below (ownsRow_setCell_below (ownsRow_setCell_below (ownsRow_setCell_below (ownsRow_setCell_below (ownsRow_setCell_below h (a := ⟨b, 0, none⟩) (by simp) _) (a := ⟨b, 1, none⟩) (by simp) _) (a := ⟨b, 2, none⟩) (by simp) _) (a := ⟨b, 3, none⟩) (by simp) _) (a := ⟨b, 4, none⟩) (by simp) _) (a := ⟨b, 5, none⟩) (by simp) _) (by omega)
theorem dataEnd_bd (s : ByteArray) (i : Nat) (hi : i ≤ s.size) : i ≤ dataEnd s i ∧ dataEnd s i ≤ s.size := by
  have hsl : s.data.toList.length = s.size := by simp
  unfold dataEnd
  have h := nextP_bd s.data.toList i [60]
  rw [hsl] at h
  simp only [List.length_cons, List.length_nil] at h
  split <;> omega
theorem skip_cdata (s : ByteArray) (i : Nat) (h : (skipP s.data.toList i 9 [93, 93, 62]).2 = 0) (hi : i + 9 ≤ s.size) : ∃ n : Nat, (skipP s.data.toList i 9 [93, 93, 62]).1 = (n : Int) ∧ i + 12 ≤ n ∧ n ≤ s.size := by
  have hsl : s.data.toList.length = s.size := by simp
  unfold skipP at h ⊢
  split at h
  · simp at h
  · rename_i h1
    rw [if_neg h1]
    have hb := nextP_bd s.data.toList (i + 9) [93, 93, 62]
    rw [hsl] at hb
    simp only [List.length_cons, List.length_nil] at hb ⊢
    exact ⟨(nextP s.data.toList (i + 9) [93, 93, 62]).toNat + 3, by omega, by omega, by omega⟩
set_option maxRecDepth 100000 in
set_option maxHeartbeats 8000000 in
theorem tref_construct (s : ByteArray) (i : Nat) (w : World) (hs : s.size ≤ 1000000) (hi : i < s.size) :
    Calls Tryd.prog 66 #[.string s, .int .i64 i] w fun e w' => ConsIs w (consP s i) e w' := by
  have hsl : s.data.toList.length = s.size := by simp
  have hi2 : (i : Int) ≤ 1000000 := by omega
  have cH : ∀ (t : ByteArray) wx, 0 < t.size → t.size ≤ 9 → _ := fun t wx h1 h2 => tref_Has s t (i : Int) wx hs (by omega) h1 (by omega)
  have k1 : ∀ wx, _ := fun wx => cH ⟨#[60, 63]⟩ wx (by decide) (by decide)
  have k2 : ∀ wx, _ := fun wx => cH ⟨#[60, 33, 45, 45]⟩ wx (by decide) (by decide)
  have k3 : ∀ wx, _ := fun wx => cH ⟨#[60, 33, 91, 67, 68, 65, 84, 65, 91]⟩ wx (by decide) (by decide)
  have k4 : ∀ wx, _ := fun wx => cH ⟨#[60, 33, 68, 79, 67, 84, 89, 80, 69]⟩ wx (by decide) (by decide)
  have k5 : ∀ wx, _ := fun wx => cH ⟨#[60, 33]⟩ wx (by decide) (by decide)
  have k6 : ∀ wx, _ := fun wx => cH ⟨#[60, 47]⟩ wx (by decide) (by decide)
  have k7 : ∀ wx, _ := fun wx => cH ⟨#[60]⟩ wx (by decide) (by decide)
  rw [show (⟨#[60, 63]⟩ : ByteArray).data.toList = [60, 63] from rfl] at k1
  rw [show (⟨#[60, 33, 45, 45]⟩ : ByteArray).data.toList = [60, 33, 45, 45] from rfl] at k2
  rw [show (⟨#[60, 33, 91, 67, 68, 65, 84, 65, 91]⟩ : ByteArray).data.toList = [60, 33, 91, 67, 68, 65, 84, 65, 91] from rfl] at k3
  rw [show (⟨#[60, 33, 68, 79, 67, 84, 89, 80, 69]⟩ : ByteArray).data.toList = [60, 33, 68, 79, 67, 84, 89, 80, 69] from rfl] at k4
  rw [show (⟨#[60, 33]⟩ : ByteArray).data.toList = [60, 33] from rfl] at k5
  rw [show (⟨#[60, 47]⟩ : ByteArray).data.toList = [60, 47] from rfl] at k6
  rw [show (⟨#[60]⟩ : ByteArray).data.toList = [60] from rfl] at k7
  obtain ⟨CP, hE⟩ : ∃ CP, consP s i = CP := ⟨_, rfl⟩
  rw [hE]
  unfold consP at hE
  have hbel : Below w.heap.size w (w.alloc (.cells #[.int .i64 0, .string ⟨#[]⟩, .slice none 0 0, .bool false, .string ⟨#[]⟩, .int .i64 0] 91)) := (Below.refl _ _).alloc (Nat.le_refl _) _
  have hres : ResAt (w.alloc (.cells #[.int .i64 0, .string ⟨#[]⟩, .slice none 0 0, .bool false, .string ⟨#[]⟩, .int .i64 0] 91)) w.heap.size := by
    refine ⟨⟨?_, ?_, ?_, ?_, ?_, ?_⟩, ?_, ?_, ?_, ?_, ?_, ?_⟩
    all_goals first | (rw [World.cell?_alloc_at _ _ _ _ rfl]; rfl) | (rw [World.frozen?_alloc_at _ _ _ _ rfl])
  have hsz : w.heap.size + 1 ≤ (w.alloc (.cells #[.int .i64 0, .string ⟨#[]⟩, .slice none 0 0, .bool false, .string ⟨#[]⟩, .int .i64 0] 91)).heap.size := by simp
  clear cH
  rcases h1 : hasP s.data.toList (i : Int) [60, 63] with _ | _
  · rw [h1] at hE k1
    rw [if_neg (by decide)] at hE
    rcases h2 : hasP s.data.toList (i : Int) [60, 33, 45, 45] with _ | _
    · rw [h2] at hE k2
      rw [if_neg (by decide)] at hE
      rcases h3 : hasP s.data.toList (i : Int) [60, 33, 91, 67, 68, 65, 84, 65, 91] with _ | _
      · rw [h3] at hE k3
        rw [if_neg (by decide)] at hE
        rcases h4 : hasP s.data.toList (i : Int) [60, 33, 68, 79, 67, 84, 89, 80, 69] with _ | _
        · rw [h4] at hE k4
          rw [if_neg (by decide)] at hE
          rcases h5 : hasP s.data.toList (i : Int) [60, 33] with _ | _
          · rw [h5] at hE k5
            rw [if_neg (by decide)] at hE
            rcases h6 : hasP s.data.toList (i : Int) [60, 47] with _ | _
            · rw [h6] at hE k6
              rw [if_neg (by decide)] at hE
              rcases h7 : hasP s.data.toList (i : Int) [60] with _ | _
              · rw [h7] at hE k7
                rw [if_neg (by decide)] at hE
                subst hE
                unfold dataP
                have cF : ∀ wx, _ := fun wx => tref_find s ⟨#[60]⟩ i wx hs (by decide) (by decide) (by omega)
                rw [show (⟨#[60]⟩ : ByteArray).data.toList = [60] from rfl] at cF
                have hde := dataEnd_bd s i (by omega)
                have cC : ∀ wx, _ := fun wx => tref_content s i (dataEnd s i) false wx hs hde.2 hde.1
                generalize contP s.data.toList i (dataEnd s i) false = cp at *
                obtain ⟨V, x1, x2⟩ := cp
                simp only at cC
                by_cases hno : nextP s.data.toList i [60] < 0
                · have hd : dataEnd s i = s.size := if_pos hno
                  rw [hd] at cC
                  generalize nextP s.data.toList i [60] = np at *
                  clear h1 h2 h3 h4 h5 h6 h7 hd hde hsl
                  go_enter Tryd.func66, Tryd.ntmps66
                  go_wp2_with fail
                  refine (k1 _).mono ?_
                  rintro e w' ⟨rfl, rfl⟩
                  generalize w.alloc (.cells #[.int .i64 0, .string ⟨#[]⟩, .slice none 0 0, .bool false, .string ⟨#[]⟩, .int .i64 0] 91) = w1 at *
                  have HR := Lib.hid hres
                  (go_wp2_with fail); (refine (k2 _).mono ?_); (rintro e w' ⟨rfl, rfl⟩)
                  (go_wp2_with fail); (refine (k3 _).mono ?_); (rintro e w' ⟨rfl, rfl⟩)
                  (go_wp2_with fail); (refine (k4 _).mono ?_); (rintro e w' ⟨rfl, rfl⟩)
                  (go_wp2_with fail); (refine (k5 _).mono ?_); (rintro e w' ⟨rfl, rfl⟩)
                  (go_wp2_with fail); (refine (k6 _).mono ?_); (rintro e w' ⟨rfl, rfl⟩)
                  (go_wp2_with fail); (refine (k7 _).mono ?_); (rintro e w' ⟨rfl, rfl⟩)
                  (go_wp2_with fail); (refine (cF _).mono ?_); (rintro e w' ⟨rfl, rfl⟩)
                  go_wp2_with fail
                  refine (cC _).mono ?_
                  rintro e w2 ⟨rfl, b2⟩
                  replace hres := hres.below b2 (by omega)
                  have hb2 := hbel.trans (b2.mono (by omega))
                  obtain ⟨⟨r0, r1, r2, r3, r4, r5⟩, q0, q1, q2, q3, q4, q5⟩ := hres
                  go_wp2
                  exact bodyPost_ret (v := .tuple #[(.agg #[.int .i64 3, .string ⟨#[]⟩, .slice none 0 0, .bool false, .string (ofBytes V), .int .i64 (i : Int)]), .int .i64 x1, .int .i64 x2]) (by simp [results, Tryd.results66, go_sem, cell_set_same, r0, r1, r2, r3, r4, r5]) rfl ⟨_, rfl, row_six1 (World.ownsRow_nil _ _ _ _) _ _ _ _ _ _, below_six hb2 _ _ _ _ _ _⟩
                · have hd : dataEnd s i = (nextP s.data.toList i [60]).toNat := if_neg hno
                  have hnp : ((dataEnd s i : Nat) : Int) = nextP s.data.toList i [60] := by omega
                  rw [hnp] at cC
                  generalize nextP s.data.toList i [60] = np at *
                  have hnp2 : ¬ np < 0 := hno
                  clear h1 h2 h3 h4 h5 h6 h7 hd hde hsl hnp
                  go_enter Tryd.func66, Tryd.ntmps66
                  go_wp2_with fail
                  refine (k1 _).mono ?_
                  rintro e w' ⟨rfl, rfl⟩
                  generalize w.alloc (.cells #[.int .i64 0, .string ⟨#[]⟩, .slice none 0 0, .bool false, .string ⟨#[]⟩, .int .i64 0] 91) = w1 at *
                  have HR := Lib.hid hres
                  (go_wp2_with fail); (refine (k2 _).mono ?_); (rintro e w' ⟨rfl, rfl⟩)
                  (go_wp2_with fail); (refine (k3 _).mono ?_); (rintro e w' ⟨rfl, rfl⟩)
                  (go_wp2_with fail); (refine (k4 _).mono ?_); (rintro e w' ⟨rfl, rfl⟩)
                  (go_wp2_with fail); (refine (k5 _).mono ?_); (rintro e w' ⟨rfl, rfl⟩)
                  (go_wp2_with fail); (refine (k6 _).mono ?_); (rintro e w' ⟨rfl, rfl⟩)
                  (go_wp2_with fail); (refine (k7 _).mono ?_); (rintro e w' ⟨rfl, rfl⟩)
                  (go_wp2_with fail); (refine (cF _).mono ?_); (rintro e w' ⟨rfl, rfl⟩)
                  go_wp2_with fail
                  refine (cC _).mono ?_
                  rintro e w2 ⟨rfl, b2⟩
                  replace hres := hres.below b2 (by omega)
                  have hb2 := hbel.trans (b2.mono (by omega))
                  obtain ⟨⟨r0, r1, r2, r3, r4, r5⟩, q0, q1, q2, q3, q4, q5⟩ := hres
                  go_wp2
                  exact bodyPost_ret (v := .tuple #[(.agg #[.int .i64 3, .string ⟨#[]⟩, .slice none 0 0, .bool false, .string (ofBytes V), .int .i64 (i : Int)]), .int .i64 x1, .int .i64 x2]) (by simp [results, Tryd.results66, go_sem, cell_set_same, r0, r1, r2, r3, r4, r5]) rfl ⟨_, rfl, row_six1 (World.ownsRow_nil _ _ _ _) _ _ _ _ _ _, below_six hb2 _ _ _ _ _ _⟩
              · rw [h7] at hE k7
                rw [if_pos rfl] at hE
                have hi1 := hasP_len h7 (by decide)
                rw [hsl] at hi1
                have cS : ∀ wx, _ := fun wx => tref_start s i wx hs (by simpa using hi1)
                generalize startP s i = SP at *
                obtain ⟨sn, sa, se, x1, x2⟩ := SP
                simp only at hE
                subst hE
                clear h1 h2 h3 h4 h5 h6 h7 hsl hi1
                go_enter Tryd.func66, Tryd.ntmps66
                go_wp2_with fail
                refine (k1 _).mono ?_
                rintro e w' ⟨rfl, rfl⟩
                generalize w.alloc (.cells #[.int .i64 0, .string ⟨#[]⟩, .slice none 0 0, .bool false, .string ⟨#[]⟩, .int .i64 0] 91) = w1 at *
                have HR := Lib.hid hres
                (go_wp2_with fail); (refine (k2 _).mono ?_); (rintro e w' ⟨rfl, rfl⟩)
                (go_wp2_with fail); (refine (k3 _).mono ?_); (rintro e w' ⟨rfl, rfl⟩)
                (go_wp2_with fail); (refine (k4 _).mono ?_); (rintro e w' ⟨rfl, rfl⟩)
                (go_wp2_with fail); (refine (k5 _).mono ?_); (rintro e w' ⟨rfl, rfl⟩)
                (go_wp2_with fail); (refine (k6 _).mono ?_); (rintro e w' ⟨rfl, rfl⟩)
                (go_wp2_with fail); (refine (k7 _).mono ?_); (rintro e w' ⟨rfl, rfl⟩)
                go_wp2_with fail
                refine (cS _).mono ?_
                rintro e w2 ⟨v, rfl, hown, b2⟩
                simp only at hown
                obtain ⟨A, c, rfl⟩ := own_form hown
                replace hres := hres.below b2 (by omega)
                have hb2 := hbel.trans (b2.mono (by omega))
                obtain ⟨⟨r0, r1, r2, r3, r4, r5⟩, q0, q1, q2, q3, q4, q5⟩ := hres
                go_wp2
                exact bodyPost_ret (v := .tuple #[(.agg #[.int .i64 1, .string (ofBytes sn), .slice A sa.length c, .bool se, .string ⟨#[]⟩, .int .i64 (i : Int)]), .int .i64 x1, .int .i64 x2]) (by simp [results, Tryd.results66, go_sem, cell_set_same, r0, r1, r2, r3, r4, r5]) rfl ⟨_, rfl, row_six1 (Go.Joins.ownsRow_le hown hsz) _ _ _ _ _ _, below_six hb2 _ _ _ _ _ _⟩
            · rw [h6] at hE k6
              rw [if_pos rfl] at hE
              have hi1 := hasP_len h6 (by decide)
              rw [hsl] at hi1
              have cS : ∀ wx, _ := fun wx => tref_end s i wx hs (by simpa using hi1)
              generalize endP s i = EP at *
              obtain ⟨sn, x1, x2⟩ := EP
              simp only [tokV] at hE cS
              subst hE
              clear h1 h2 h3 h4 h5 h6 hsl hi1
              go_enter Tryd.func66, Tryd.ntmps66
              go_wp2_with fail
              refine (k1 _).mono ?_
              rintro e w' ⟨rfl, rfl⟩
              generalize w.alloc (.cells #[.int .i64 0, .string ⟨#[]⟩, .slice none 0 0, .bool false, .string ⟨#[]⟩, .int .i64 0] 91) = w1 at *
              have HR := Lib.hid hres
              (go_wp2_with fail); (refine (k2 _).mono ?_); (rintro e w' ⟨rfl, rfl⟩)
              (go_wp2_with fail); (refine (k3 _).mono ?_); (rintro e w' ⟨rfl, rfl⟩)
              (go_wp2_with fail); (refine (k4 _).mono ?_); (rintro e w' ⟨rfl, rfl⟩)
              (go_wp2_with fail); (refine (k5 _).mono ?_); (rintro e w' ⟨rfl, rfl⟩)
              (go_wp2_with fail); (refine (k6 _).mono ?_); (rintro e w' ⟨rfl, rfl⟩)
              go_wp2_with fail
              refine (cS _).mono ?_
              rintro e w2 ⟨rfl, b2⟩
              replace hres := hres.below b2 (by omega)
              have hb2 := hbel.trans (b2.mono (by omega))
              obtain ⟨⟨r0, r1, r2, r3, r4, r5⟩, q0, q1, q2, q3, q4, q5⟩ := hres
              go_wp2
              exact bodyPost_ret (v := .tuple #[(.agg #[.int .i64 2, .string (ofBytes sn), .slice none 0 0, .bool false, .string (ofBytes []), .int .i64 (i : Int)]), .int .i64 x1, .int .i64 x2]) (by simp [results, Tryd.results66, go_sem, cell_set_same, r0, r1, r2, r3, r4, r5]) rfl ⟨_, rfl, row_six1 (World.ownsRow_nil _ _ _ _) _ _ _ _ _ _, below_six hb2 _ _ _ _ _ _⟩
          · rw [h5] at hE k5
            rw [if_pos rfl] at hE
            subst hE
            clear h1 h2 h3 h4 h5 hsl
            go_enter Tryd.func66, Tryd.ntmps66
            go_wp2_with fail
            refine (k1 _).mono ?_
            rintro e w' ⟨rfl, rfl⟩
            generalize w.alloc (.cells #[.int .i64 0, .string ⟨#[]⟩, .slice none 0 0, .bool false, .string ⟨#[]⟩, .int .i64 0] 91) = w1 at *
            have HR := Lib.hid hres
            obtain ⟨⟨r0, r1, r2, r3, r4, r5⟩, q0, q1, q2, q3, q4, q5⟩ := hres
            (go_wp2_with fail); (refine (k2 _).mono ?_); (rintro e w' ⟨rfl, rfl⟩)
            (go_wp2_with fail); (refine (k3 _).mono ?_); (rintro e w' ⟨rfl, rfl⟩)
            (go_wp2_with fail); (refine (k4 _).mono ?_); (rintro e w' ⟨rfl, rfl⟩)
            (go_wp2_with fail); (refine (k5 _).mono ?_); (rintro e w' ⟨rfl, rfl⟩)
            go_wp2
            exact bodyPost_ret (v := .tuple #[(.agg #[.int .i64 0, .string ⟨#[]⟩, .slice none 0 0, .bool false, .string ⟨#[]⟩, .int .i64 0]), .int .i64 (i : Int), .int .i64 7]) (by simp [results, Tryd.results66, go_sem, cell_set_same, r0, r1, r2, r3, r4, r5]) rfl ⟨_, rfl, row_six1 (World.ownsRow_nil _ _ _ _) _ _ _ _ _ _, below_six hbel _ _ _ _ _ _⟩
        · rw [h4] at hE k4
          rw [if_pos rfl] at hE
          subst hE
          clear h1 h2 h3 h4 hsl
          go_enter Tryd.func66, Tryd.ntmps66
          go_wp2_with fail
          refine (k1 _).mono ?_
          rintro e w' ⟨rfl, rfl⟩
          generalize w.alloc (.cells #[.int .i64 0, .string ⟨#[]⟩, .slice none 0 0, .bool false, .string ⟨#[]⟩, .int .i64 0] 91) = w1 at *
          have HR := Lib.hid hres
          obtain ⟨⟨r0, r1, r2, r3, r4, r5⟩, q0, q1, q2, q3, q4, q5⟩ := hres
          (go_wp2_with fail); (refine (k2 _).mono ?_); (rintro e w' ⟨rfl, rfl⟩)
          (go_wp2_with fail); (refine (k3 _).mono ?_); (rintro e w' ⟨rfl, rfl⟩)
          (go_wp2_with fail); (refine (k4 _).mono ?_); (rintro e w' ⟨rfl, rfl⟩)
          go_wp2
          exact bodyPost_ret (v := .tuple #[(.agg #[.int .i64 0, .string ⟨#[]⟩, .slice none 0 0, .bool false, .string ⟨#[]⟩, .int .i64 0]), .int .i64 (i : Int), .int .i64 11]) (by simp [results, Tryd.results66, go_sem, cell_set_same, r0, r1, r2, r3, r4, r5]) rfl ⟨_, rfl, row_six1 (World.ownsRow_nil _ _ _ _) _ _ _ _ _ _, below_six hbel _ _ _ _ _ _⟩
      · rw [h3] at hE k3
        rw [if_pos rfl] at hE
        unfold cdataP at hE
        have hi1 := hasP_len h3 (by decide)
        rw [hsl] at hi1
        simp only [List.length_cons, List.length_nil] at hi1
        have cS : ∀ wx, _ := fun wx => tref_skip s ⟨#[60, 33, 91, 67, 68, 65, 84, 65, 91]⟩ ⟨#[93, 93, 62]⟩ i wx hs (by decide) (by decide) (by decide) (by omega)
        rw [show (⟨#[60, 33, 91, 67, 68, 65, 84, 65, 91]⟩ : ByteArray).size = 9 from rfl, show (⟨#[93, 93, 62]⟩ : ByteArray).data.toList = [93, 93, 62] from rfl] at cS
        have hsk := skip_cdata s i
        generalize skipP s.data.toList i 9 [93, 93, 62] = sk at *
        obtain ⟨x1, x2⟩ := sk
        simp only at hE cS hsk
        by_cases hx : x2 = 0
        · rw [if_neg (by simpa using hx)] at hE
          obtain ⟨n, rfl, hn1, hn2⟩ := hsk hx (by omega)
          rw [Int.toNat_natCast] at hE
          subst hx
          subst hE
          have hsc : ∀ wx, _ := fun wx => slice_mid s ((i : Int) + 9) ((n : Int) - 3) (by omega) (by omega) (by omega) wx
          rw [show ((i : Int) + 9).toNat = i + 9 by omega, show ((n : Int) - 3).toNat = n - 3 by omega, kext] at hsc
          have hl3 : ((s.data.toList.drop (i + 9)).take (n - 3 - (i + 9))).length ≤ 1000000 := by rw [List.length_take, List.length_drop]; omega
          have cL : ∀ wx, _ := fun wx => tref_Lines (ofBytes ((s.data.toList.drop (i + 9)).take (n - 3 - (i + 9)))) wx (by rw [ofBytes_size]; exact hl3)
          rw [ofBytes_list] at cL
          generalize (s.data.toList.drop (i + 9)).take (n - 3 - (i + 9)) = part at *
          have hn3 : (n : Int) ≤ 1000000 := by omega
          have hn4 : (i : Int) + 12 ≤ (n : Int) := by omega
          clear h1 h2 h3 hsl hi1 hsk hl3
          go_enter Tryd.func66, Tryd.ntmps66
          go_wp2_with fail
          refine (k1 _).mono ?_
          rintro e w' ⟨rfl, rfl⟩
          generalize w.alloc (.cells #[.int .i64 0, .string ⟨#[]⟩, .slice none 0 0, .bool false, .string ⟨#[]⟩, .int .i64 0] 91) = w1 at *
          have HR := Lib.hid hres
          (go_wp2_with fail); (refine (k2 _).mono ?_); (rintro e w' ⟨rfl, rfl⟩)
          (go_wp2_with fail); (refine (k3 _).mono ?_); (rintro e w' ⟨rfl, rfl⟩)
          (go_wp2_with fail); (refine (cS _).mono ?_); (rintro e w' ⟨rfl, rfl⟩)
          go_wp2_with fail
          refine (cL _).mono ?_
          rintro e w2 ⟨rfl, b2⟩
          replace hres := hres.below b2 (by omega)
          have hb2 := hbel.trans (b2.mono (by omega))
          obtain ⟨⟨r0, r1, r2, r3, r4, r5⟩, q0, q1, q2, q3, q4, q5⟩ := hres
          go_wp2
          exact bodyPost_ret (v := .tuple #[(.agg #[.int .i64 3, .string ⟨#[]⟩, .slice none 0 0, .bool false, .string (ofBytes (linesP part)), .int .i64 (i : Int)]), .int .i64 (n : Int), .int .i64 0]) (by simp [results, Tryd.results66, go_sem, cell_set_same, r0, r1, r2, r3, r4, r5]) rfl ⟨_, rfl, row_six1 (World.ownsRow_nil _ _ _ _) _ _ _ _ _ _, below_six hb2 _ _ _ _ _ _⟩
        · rw [if_pos hx] at hE
          have hxb : (x2 != 0) = true := by simpa using hx
          subst hE
          clear h1 h2 h3 hsl hi1 hsk hx
          go_enter Tryd.func66, Tryd.ntmps66
          go_wp2_with fail
          refine (k1 _).mono ?_
          rintro e w' ⟨rfl, rfl⟩
          generalize w.alloc (.cells #[.int .i64 0, .string ⟨#[]⟩, .slice none 0 0, .bool false, .string ⟨#[]⟩, .int .i64 0] 91) = w1 at *
          have HR := Lib.hid hres
          obtain ⟨⟨r0, r1, r2, r3, r4, r5⟩, q0, q1, q2, q3, q4, q5⟩ := hres
          (go_wp2_with fail); (refine (k2 _).mono ?_); (rintro e w' ⟨rfl, rfl⟩)
          (go_wp2_with fail); (refine (k3 _).mono ?_); (rintro e w' ⟨rfl, rfl⟩)
          (go_wp2_with fail); (refine (cS _).mono ?_); (rintro e w' ⟨rfl, rfl⟩)
          go_wp2
          exact bodyPost_ret (v := .tuple #[(.agg #[.int .i64 0, .string ⟨#[]⟩, .slice none 0 0, .bool false, .string ⟨#[]⟩, .int .i64 0]), .int .i64 x1, .int .i64 x2]) (by simp [results, Tryd.results66, go_sem, cell_set_same, r0, r1, r2, r3, r4, r5]) rfl ⟨_, rfl, row_six1 (World.ownsRow_nil _ _ _ _) _ _ _ _ _ _, below_six hbel _ _ _ _ _ _⟩
    · rw [h2] at hE k2
      rw [if_pos rfl] at hE
      have cS : ∀ wx, _ := fun wx => tref_skip s ⟨#[60, 33, 45, 45]⟩ ⟨#[45, 45, 62]⟩ i wx hs (by decide) (by decide) (by decide) (by omega)
      rw [show (⟨#[60, 33, 45, 45]⟩ : ByteArray).size = 4 from rfl, show (⟨#[45, 45, 62]⟩ : ByteArray).data.toList = [45, 45, 62] from rfl] at cS
      generalize skipP s.data.toList i 4 [45, 45, 62] = sk at *
      obtain ⟨x1, x2⟩ := sk
      simp only at hE cS
      subst hE
      clear h1 h2 hsl
      go_enter Tryd.func66, Tryd.ntmps66
      go_wp2_with fail
      refine (k1 _).mono ?_
      rintro e w' ⟨rfl, rfl⟩
      generalize w.alloc (.cells #[.int .i64 0, .string ⟨#[]⟩, .slice none 0 0, .bool false, .string ⟨#[]⟩, .int .i64 0] 91) = w1 at *
      have HR := Lib.hid hres
      obtain ⟨⟨r0, r1, r2, r3, r4, r5⟩, q0, q1, q2, q3, q4, q5⟩ := hres
      (go_wp2_with fail); (refine (k2 _).mono ?_); (rintro e w' ⟨rfl, rfl⟩)
      (go_wp2_with fail); (refine (cS _).mono ?_); (rintro e w' ⟨rfl, rfl⟩)
      go_wp2
      exact bodyPost_ret (v := .tuple #[(.agg #[.int .i64 3, .string ⟨#[]⟩, .slice none 0 0, .bool false, .string ⟨#[]⟩, .int .i64 0]), .int .i64 x1, .int .i64 x2]) (by simp [results, Tryd.results66, go_sem, cell_set_same, r0, r1, r2, r3, r4, r5]) rfl ⟨_, rfl, row_six1 (World.ownsRow_nil _ _ _ _) _ _ _ _ _ _, below_six hbel _ _ _ _ _ _⟩
  · rw [h1] at hE k1
    rw [if_pos rfl] at hE
    have cS : ∀ wx, _ := fun wx => tref_skip s ⟨#[60, 63]⟩ ⟨#[63, 62]⟩ i wx hs (by decide) (by decide) (by decide) (by omega)
    rw [show (⟨#[60, 63]⟩ : ByteArray).size = 2 from rfl, show (⟨#[63, 62]⟩ : ByteArray).data.toList = [63, 62] from rfl] at cS
    generalize skipP s.data.toList i 2 [63, 62] = sk at *
    obtain ⟨x1, x2⟩ := sk
    simp only at hE cS
    subst hE
    clear h1 hsl
    go_enter Tryd.func66, Tryd.ntmps66
    go_wp2_with fail
    refine (k1 _).mono ?_
    rintro e w' ⟨rfl, rfl⟩
    generalize w.alloc (.cells #[.int .i64 0, .string ⟨#[]⟩, .slice none 0 0, .bool false, .string ⟨#[]⟩, .int .i64 0] 91) = w1 at *
    have HR := Lib.hid hres
    obtain ⟨⟨r0, r1, r2, r3, r4, r5⟩, q0, q1, q2, q3, q4, q5⟩ := hres
    (go_wp2_with fail); (refine (cS _).mono ?_); (rintro e w' ⟨rfl, rfl⟩)
    go_wp2
    exact bodyPost_ret (v := .tuple #[(.agg #[.int .i64 3, .string ⟨#[]⟩, .slice none 0 0, .bool false, .string ⟨#[]⟩, .int .i64 0]), .int .i64 x1, .int .i64 x2]) (by simp [results, Tryd.results66, go_sem, cell_set_same, r0, r1, r2, r3, r4, r5]) rfl ⟨_, rfl, row_six1 (World.ownsRow_nil _ _ _ _) _ _ _ _ _ _, below_six hbel _ _ _ _ _ _⟩
end Go.Proofs.YtoehcholbcchcaaDoor
end
section
namespace Go.Proofs.YtoehcholbcchcaaDoor
open Go.RowKit
theorem contF_ok (l : List UInt8) (j : Nat) (v : Bool) : ∀ f i out, (contF l j v f i out).2.2 = 0 → (contF l j v f i out).2.1 = (j : Int)
  | 0, i, out, _ => rfl
  | f + 1, i, out, h => by
    rw [contF] at h ⊢
    split
    · rename_i h1
      rw [if_pos h1] at h
      split
      · rename_i h2
        rw [if_pos h2] at h
        split
        · rename_i h3
          rw [if_pos h3] at h
          exact contF_ok l j v f _ _ h
        · rename_i h3
          rw [if_neg h3] at h
          exact absurd h h3
      · rename_i h2
        rw [if_neg h2] at h
        exact contF_ok l j v f _ _ h
    · rfl
theorem contP_ok (l : List UInt8) (i j : Nat) (v : Bool) (h : (contP l i j v).2.2 = 0) : (contP l i j v).2.1 = (j : Int) := contF_ok l j v _ _ _ h
theorem skipP_ok (s : ByteArray) (i n : Nat) (t : List UInt8) (ht : t ≠ []) (hi : i + n ≤ s.size) (h : (skipP s.data.toList i n t).2 = 0) : ∃ z : Nat, (skipP s.data.toList i n t).1 = (z : Int) ∧ i < z ∧ z ≤ s.size := by
  have hsl : s.data.toList.length = s.size := by simp
  have h0 : 0 < t.length := List.length_pos_iff.2 ht
  unfold skipP at h ⊢
  split at h
  · simp at h
  · rename_i h1
    rw [if_neg h1]
    have hb := nextP_bd s.data.toList (i + n) t
    rw [hsl] at hb
    exact ⟨(nextP s.data.toList (i + n) t + (t.length : Int)).toNat, by omega, by omega, by omega⟩
theorem endP_ok (s : ByteArray) (i : Nat) (hi : i + 2 ≤ s.size) (h : (endP s i).2.2 = 0) : ∃ z : Nat, (endP s i).2.1 = (z : Int) ∧ i < z ∧ z ≤ s.size := by
  have hsl : s.data.toList.length = s.size := by simp
  rw [endP_def] at h ⊢
  have hb := nmP_le s (i + 2) hi
  generalize nmP s (i + 2) = n at *
  have hk := spP_le s.data.toList n (by omega)
  generalize spP s.data.toList n = k at *
  split at h
  · exact absurd h (misP_ne _ _ _)
  · rename_i h1
    rw [if_neg h1]
    split at h
    · rename_i h2
      rw [if_pos h2]
      have := hasP_len h2 (by decide)
      simp only [List.length_cons, List.length_nil] at this
      exact ⟨k + 1, by simp, by omega, by omega⟩
    · exact absurd h (misP_ne _ _ _)
theorem startGo_ok (s : ByteArray) (i : Nat) (N : List UInt8) : ∀ f a acc, s.size - a < f → i < a → a ≤ s.size → (startGo s i N f a acc).p2 = 0 → ∃ z : Nat, (startGo s i N f a acc).p1 = (z : Int) ∧ i < z ∧ z ≤ s.size
  | 0, a, acc, hf, _, _, _ => absurd hf (by omega)
  | f + 1, a, acc, hf, hia, ha, h => by
    have hsl : s.data.toList.length = s.size := by simp
    rw [startGo] at h ⊢
    have hk := spP_le s.data.toList a (by omega)
    rw [hsl] at hk
    generalize spP s.data.toList a = m at *
    split
    · rename_i h1
      have := hasP_len h1 (by decide)
      simp only [List.length_cons, List.length_nil] at this
      exact ⟨m + 1, by simp, by omega, by omega⟩
    · rename_i h1
      rw [if_neg h1] at h
      split
      · rename_i h2
        have := hasP_len h2 (by decide)
        simp only [List.length_cons, List.length_nil] at this
        exact ⟨m + 2, by simp, by omega, by omega⟩
      · rename_i h2
        rw [if_neg h2] at h
        split
        · rename_i h3
          rw [if_pos h3] at h
          exact absurd h (misP_ne _ _ _)
        · rename_i h3
          rw [if_neg h3] at h
          split
          · rename_i h4
            rw [if_pos h4] at h
            exact absurd h (misP_ne _ _ _)
          · rename_i h4
            rw [if_neg h4] at h
            split
            · rename_i h5
              rw [if_pos h5] at h
              exact absurd h h5
            · rename_i h5
              rw [if_neg h5] at h
              obtain ⟨z, hz, hz1, hz2⟩ := attrP_ok s i m (by omega) (by simpa using h5)
              split
              · rename_i h6
                rw [if_pos h6] at h
                simp at h
              · rename_i h6
                rw [if_neg h6] at h
                rw [hz, Int.toNat_natCast] at h ⊢
                exact startGo_ok s i N f z _ (by omega) (by omega) hz2 h
theorem startP_ok (s : ByteArray) (i : Nat) (hi : i + 1 ≤ s.size) (h : (startP s i).p2 = 0) : ∃ z : Nat, (startP s i).p1 = (z : Int) ∧ i < z ∧ z ≤ s.size := by
  unfold startP at h ⊢
  have hb := nmP_le s (i + 1) hi
  split
  · rename_i h1
    rw [if_pos h1] at h
    exact absurd h (misP_ne _ _ _)
  · rename_i h1
    rw [if_neg h1] at h
    exact startGo_ok s i _ _ _ _ (by omega) (by omega) hb.2 h
theorem consP_ok (s : ByteArray) (i : Nat) (hi : i < s.size) (h : (consP s i).2.2 = 0) : ∃ z : Nat, (consP s i).2.1 = (z : Int) ∧ i < z ∧ z ≤ s.size := by
  have hsl : s.data.toList.length = s.size := by simp
  unfold consP at h ⊢
  split
  · rename_i h1
    rw [if_pos h1] at h
    have := hasP_len h1 (by decide)
    rw [hsl] at this
    exact skipP_ok s i 2 _ (by decide) this h
  · rename_i h1
    rw [if_neg h1] at h
    split
    · rename_i h2
      rw [if_pos h2] at h
      have := hasP_len h2 (by decide)
      rw [hsl] at this
      exact skipP_ok s i 4 _ (by decide) this h
    · rename_i h2
      rw [if_neg h2] at h
      split
      · rename_i h3
        rw [if_pos h3] at h
        have hl := hasP_len h3 (by decide)
        rw [hsl] at hl
        unfold cdataP at h ⊢
        split
        · rename_i h4
          rw [if_pos h4] at h
          exact absurd h h4
        · rename_i h4
          exact skipP_ok s i 9 _ (by decide) hl (by simpa using h4)
      · rename_i h3
        rw [if_neg h3] at h
        split
        · rename_i h4
          rw [if_pos h4] at h
          simp at h
        · rename_i h4
          rw [if_neg h4] at h
          split
          · rename_i h5
            rw [if_pos h5] at h
            simp at h
          · rename_i h5
            rw [if_neg h5] at h
            split
            · rename_i h6
              rw [if_pos h6] at h
              have hl := hasP_len h6 (by decide)
              rw [hsl] at hl
              exact endP_ok s i hl h
            · rename_i h6
              rw [if_neg h6] at h
              split
              · rename_i h7
                rw [if_pos h7] at h
                have hl := hasP_len h7 (by decide)
                rw [hsl] at hl
                exact startP_ok s i hl h
              · rename_i h7
                rw [if_neg h7] at h
                unfold dataP at h ⊢
                have hb := dataEnd_bd s i (by omega)
                refine ⟨dataEnd s i, contP_ok _ _ _ _ h, ?_, hb.2⟩
                have hm := nextP_miss s.data.toList i [60] (by omega) (by simpa using h7)
                have hn := nextP_bd s.data.toList (i + 1) [60]
                unfold dataEnd
                rw [hm]
                split <;> omega
def tokCells (p : TokD × Value) : List Value := [.int .i64 p.1.kind, .string (ofBytes p.1.nm), p.2, .bool p.1.em, .string (ofBytes p.1.tx), .int .i64 p.1.at']
def toksCells (ps : List (TokD × Value)) : List Value := ps.flatMap tokCells
theorem toksCells_app (l m : List (TokD × Value)) : toksCells (l ++ m) = toksCells l ++ toksCells m := by unfold toksCells; rw [List.flatMap_append]
def TokRow (w : World) (B : Nat) (v : Value) (ps : List (TokD × Value)) : Prop := w.ownsRow B 91 6 v ps.length (toksCells ps) ∧ ∀ p ∈ ps, w.ownsRow B 43 4 p.2 p.1.al.length (attrsCells p.1.al)
theorem TokRow.below {w w' : World} {B : Nat} {v : Value} {ps : List (TokD × Value)} (h : TokRow w B v ps) (hb : Below w.heap.size w w') : TokRow w' B v ps := ⟨row_below h.1 hb, fun p hp => row_below (h.2 p hp) hb⟩
theorem rows_apart {w : World} {B B' : Nat} {e e' : TypeId} {k k' n n' : Nat} {v v' : Value} {xs xs' : List Value} (h : w.ownsRow B e k v n xs) (h' : w.ownsRow B' e' k' v' n' xs') (hne : e ≠ e') : v.ownBlock = none ∨ v.ownBlock ≠ v'.ownBlock := by
  rcases hg : v.ownBlock with _ | g
  · exact .inl rfl
  · right
    intro heq
    obtain ⟨c1, f1, h1⟩ := Go.Lib.ownsRow_kind h g hg
    obtain ⟨c2, f2, h2⟩ := Go.Lib.ownsRow_kind h' g heq.symm
    rw [h1] at h2
    injection h2 with h3
    injection h3 with _ h4
    exact hne h4
def tokGo (s : ByteArray) : Nat → Nat → List TokD → List TokD × Int × Int
  | 0, _, acc => (acc, (s.size : Int), 0)
  | f + 1, a, acc => if a < s.size then (if (consP s a).2.2 ≠ 0 then ([], (consP s a).2.1, (consP s a).2.2)
      else tokGo s f (consP s a).2.1.toNat (if (consP s a).1.kind ≠ 3 ∨ (consP s a).1.tx ≠ [] then acc ++ [(consP s a).1] else acc)) else (acc, (s.size : Int), 0)
def toksP (s : ByteArray) : List TokD × Int × Int :=
  if (chk s).2 ≠ 0 then ([], ((chk s).1 : Int), ((chk s).2 : Int)) else tokGo s (s.size + 1) (if hasP s.data.toList 0 [239, 187, 191] then 3 else 0) []
def ToksIs (w0 : World) (R : List TokD × Int × Int) (e : Ending) (w' : World) : Prop := ∃ v ps, e = .returned (.tuple #[v, .int .i64 R.2.1, .int .i64 R.2.2]) ∧ ps.map Prod.fst = R.1 ∧ TokRow w' w0.heap.size v ps ∧ Below w0.heap.size w0 w'
theorem kinfo_tok : (Tryd.prog.info? 91).map (fun i => (i.zero, i.size, i.bytes)) = some (some (.agg #[.int .i64 0, .string ⟨#[]⟩, .slice none 0 0, .bool false, .string ⟨#[]⟩, .int .i64 0]), 6, 80) := by kernel_rfl
theorem tok_one (t : TokD) (A : Option Addr) (n c : Nat) : ∀ u ∈ tokCells (t, .slice A n c), u.oneCell' = true := by
  intro u hu
  simp [tokCells] at hu
  rcases hu with rfl | rfl | rfl | rfl | rfl | rfl <;> rfl
theorem tok_new (w : World) (ty : TypeId) (p : TokD × Value) : ∀ j u, (tokCells p)[j]? = some u → (w.alloc (.cells #[.int .i64 p.1.kind, .string (ofBytes p.1.nm), p.2, .bool p.1.em, .string (ofBytes p.1.tx), .int .i64 p.1.at'] ty)).cell? ((⟨w.heap.size, 0, none⟩ : Addr).add j) = some u := by
  intro j u hu
  rw [addr_add, World.cell?_alloc_at _ _ _ _ rfl, List.getElem?_toArray]
  exact hu
theorem tok_new2 (w : World) (o : Obj) (ty : TypeId) (p : TokD × Value) : ∀ j u, (tokCells p)[j]? = some u → ((w.alloc o).alloc (.cells #[.int .i64 p.1.kind, .string (ofBytes p.1.nm), p.2, .bool p.1.em, .string (ofBytes p.1.tx), .int .i64 p.1.at'] ty)).cell? ((⟨w.heap.size + 1, 0, none⟩ : Addr).add j) = some u := by
  have h : w.heap.size + 1 = (w.alloc o).heap.size := by simp
  rw [h]
  exact tok_new _ _ _
theorem tok_apart : (43 : TypeId) ≠ 91 := by decide
set_option maxRecDepth 100000 in
set_option maxHeartbeats 8000000 in
theorem tref_Tokens (s : ByteArray) (w : World) (hs : s.size ≤ 1000000) :
    Calls Tryd.prog 46 #[.string s] w fun e w' => ToksIs w (toksP s) e w' := by
  obtain ⟨i0, hi0, hi1, hi3, hi4⟩ := info_parts kinfo_tok
  have hsl : s.data.toList.length = s.size := by simp
  have HSL := Lib.hid hsl
  have cK : ∀ wx, _ := fun wx => ref_Check s wx (by unfold maxLen; omega)
  have cB : ∀ wx, _ := fun wx => tref_Has s ⟨#[239, 187, 191]⟩ 0 wx hs (by decide) (by decide) (by omega)
  rw [show (⟨#[239, 187, 191]⟩ : ByteArray).data.toList = [239, 187, 191] from rfl] at cB
  have hE : toksP s = if (chk s).2 ≠ 0 then ([], ((chk s).1 : Int), ((chk s).2 : Int)) else tokGo s (s.size + 1) (if hasP s.data.toList 0 [239, 187, 191] then 3 else 0) [] := rfl
  generalize toksP s = TP at *
  generalize chk s = ck at *
  obtain ⟨k1, k2⟩ := ck
  simp only at cK hE
  by_cases hk : k2 = 0
  · rw [if_neg (by simpa using hk)] at hE
    subst hk
    rw [show ((0 : Nat) : Int) = 0 from rfl] at cK
    rcases hB : hasP s.data.toList 0 [239, 187, 191] with _ | _
    · rw [hB] at hE cB
      rw [if_neg (show ¬ (false = true) by decide)] at hE
      have hq3 : 0 ≤ s.size := Nat.zero_le _
      clear hB hsl
      go_enter Tryd.func46, Tryd.ntmps46
      go_wp2_with fail
      refine (cK _).mono ?_
      rintro e w1 ⟨rfl, b1⟩
      (go_wp2_with fail); (refine (cB _).mono ?_); (rintro e w' ⟨rfl, rfl⟩)
      go_wp2
      go_loopw [5, 7] (fun a v wr => ∃ (k f : Nat) (ps : List (TokD × Value)) (A : Option Addr) (c : Nat), a = .int .i64 k ∧ k ≤ s.size ∧ TP = tokGo s f k (ps.map Prod.fst) ∧ s.size - k < f ∧ v = .slice A ps.length c ∧ TokRow wr w.heap.size (.slice A ps.length c) ps ∧ Below w.heap.size w wr ∧ ps.length ≤ k) (fun a _ _ => s.size - (intOf a).toNat)
      case atStart => exact ⟨0, s.size + 1, [], none, 0, rfl, hq3, hE, by omega, rfl, ⟨World.ownsRow_nil _ _ _ _, fun p hp => by cases hp⟩, b1, Nat.zero_le _⟩
      case round =>
        clear hE
        obtain ⟨k, f, ps, A, c, rfl, hk, hst, hf, rfl, hrow, hbel, hpl⟩ := hrel
        obtain ⟨f, rfl⟩ : ∃ g, f = g + 1 := ⟨f - 1, by omega⟩
        rw [tokGo] at hst
        have hz := hbel.size
        by_cases hlt : k < s.size
        · rw [if_pos hlt] at hst
          have hkz : (k : Int) < (s.size : Int) := by omega
          have cC : ∀ wx, _ := fun wx => tref_construct s k wx hs hlt
          have hok := consP_ok s k hlt
          generalize consP s k = cp at *
          obtain ⟨⟨kd, nm, al, em, tx, at'⟩, x1, x2⟩ := cp
          simp only at hst hok
          by_cases hx : x2 = 0
          · rw [if_neg (by simpa using hx)] at hst
            obtain ⟨z, rfl, hz1, hz2⟩ := hok hx
            subst hx
            rw [Int.toNat_natCast] at hst
            go_wp2_with fail
            refine (cC _).mono ?_
            rintro e w2 ⟨u, rfl, hown, b2⟩
            simp only [tokVal] at hown ⊢
            obtain ⟨A2, c2, rfl⟩ := own_form hown
            have hrow2 := hrow.below b2
            have hown2 := Go.Joins.ownsRow_le hown hz
            have hb2 : Below w.heap.size w w2 := hbel.trans (b2.mono hz)
            clear hrow hown b2 hbel
            by_cases hkd : kd = 3
            · by_cases htx : tx = []
              · rw [if_neg (by rintro (h | h) <;> contradiction)] at hst
                have hte : (ofBytes tx).toList.isEmpty = true := by rw [ByteArray.toList_eq, ofBytes_list, htx]; rfl
                subst hkd
                clear htx
                generalize ofBytes tx = TX at *
                go_wp2
                go_roundw
                case rel => exact ⟨z, f, ps, A, c, by go_num, hz2, hst, by omega, rfl, hrow2.below ((Below.refl _ _).alloc (Nat.le_refl _) _), hb2.alloc (by have := hb2.size; omega) _, by omega⟩
                case measure => simp [intOf]; omega
              · rw [if_pos (.inr htx)] at hst
                have hte : (ofBytes tx).toList.isEmpty = false := by
                  rw [ByteArray.toList_eq, ofBytes_list]
                  cases tx with
                  | nil => exact absurd rfl htx
                  | cons _ _ => rfl
                subst hkd
                go_wp2_with (at_builtin; refine wpList_append_own _ rfl (.tmp 45) (.tmp 47) 84 rfl w.heap.size 91 i0 (.agg #[.int .i64 0, .string ⟨#[]⟩, .slice none 0 0, .bool false, .string ⟨#[]⟩, .int .i64 0]) 6 80 Tryd.underlying84 hi0 hi1 hi3 hi4 rfl (by decide) (.slice A ps.length c) ps.length (toksCells ps) rfl ((hrow2.1.alloc _).alloc _) ⟨w2.heap.size + 1, 0, none⟩ 1 1 (tokCells (⟨3, nm, al, em, tx, at'⟩, .slice A2 al.length c2)) rfl rfl (tok_new2 _ _ _ (⟨3, nm, al, em, tx, at'⟩, .slice A2 al.length c2)) (tok_one _ _ _ _) (by unfold maxLen; omega) (by omega) (by simp; have := hb2.size; omega) ?_; intro v' w4 hown' hgr' _; obtain ⟨A', c', rfl⟩ := own_form hown')
                have hb4 : Below w.heap.size w w4 := ((hb2.alloc (by have := hb2.size; omega) _).alloc (by simp; have := hb2.size; omega) _).grown hgr' (by simp; have := hb2.size; omega) (fun g hg => (hrow2.1.lt g hg).1)
                have hrow5 : TokRow w4 w.heap.size (.slice A' (ps ++ [((⟨3, nm, al, em, tx, at'⟩ : TokD), Value.slice A2 al.length c2)]).length c') (ps ++ [((⟨3, nm, al, em, tx, at'⟩ : TokD), Value.slice A2 al.length c2)]) := by
                  refine ⟨?_, fun q hq => ?_⟩
                  · rw [toksCells_app, List.length_append]
                    exact hown'
                  · have hq2 : w2.ownsRow w.heap.size 43 4 q.2 q.1.al.length (attrsCells q.1.al) := by
                      rcases List.mem_append.1 hq with h | h
                      · exact hrow2.2 q h
                      · rw [List.mem_singleton.1 h]; exact hown2
                    exact ((hq2.alloc _).alloc _).kept hgr' (rows_apart hq2 hrow2.1 tok_apart)
                have hst2 : TP = tokGo s f z ((ps ++ [((⟨3, nm, al, em, tx, at'⟩ : TokD), Value.slice A2 al.length c2)]).map Prod.fst) := by rw [List.map_append]; exact hst
                clear hown' hgr' hrow2 hown2 hst
                go_wp2
                go_roundw
                case rel => exact ⟨z, f, _, A', c', by go_num, hz2, hst2, by omega, by rw [List.length_append]; rfl, hrow5, hb4, by rw [List.length_append, List.length_singleton]; omega⟩
                case measure => simp [intOf]; omega
            · rw [if_pos (.inl hkd)] at hst
              have hkdb : (kd != 3) = true := by simpa using hkd
              go_wp2_with (at_builtin; refine wpList_append_own _ rfl (.tmp 45) (.tmp 47) 84 rfl w.heap.size 91 i0 (.agg #[.int .i64 0, .string ⟨#[]⟩, .slice none 0 0, .bool false, .string ⟨#[]⟩, .int .i64 0]) 6 80 Tryd.underlying84 hi0 hi1 hi3 hi4 rfl (by decide) (.slice A ps.length c) ps.length (toksCells ps) rfl ((hrow2.1.alloc _).alloc _) ⟨w2.heap.size + 1, 0, none⟩ 1 1 (tokCells (⟨kd, nm, al, em, tx, at'⟩, .slice A2 al.length c2)) rfl rfl (tok_new2 _ _ _ (⟨kd, nm, al, em, tx, at'⟩, .slice A2 al.length c2)) (tok_one _ _ _ _) (by unfold maxLen; omega) (by omega) (by simp; have := hb2.size; omega) ?_; intro v' w4 hown' hgr' _; obtain ⟨A', c', rfl⟩ := own_form hown')
              have hb4 : Below w.heap.size w w4 := ((hb2.alloc (by have := hb2.size; omega) _).alloc (by simp; have := hb2.size; omega) _).grown hgr' (by simp; have := hb2.size; omega) (fun g hg => (hrow2.1.lt g hg).1)
              have hrow5 : TokRow w4 w.heap.size (.slice A' (ps ++ [((⟨kd, nm, al, em, tx, at'⟩ : TokD), Value.slice A2 al.length c2)]).length c') (ps ++ [((⟨kd, nm, al, em, tx, at'⟩ : TokD), Value.slice A2 al.length c2)]) := by
                refine ⟨?_, fun q hq => ?_⟩
                · rw [toksCells_app, List.length_append]
                  exact hown'
                · have hq2 : w2.ownsRow w.heap.size 43 4 q.2 q.1.al.length (attrsCells q.1.al) := by
                    rcases List.mem_append.1 hq with h | h
                    · exact hrow2.2 q h
                    · rw [List.mem_singleton.1 h]; exact hown2
                  exact ((hq2.alloc _).alloc _).kept hgr' (rows_apart hq2 hrow2.1 tok_apart)
              have hst2 : TP = tokGo s f z ((ps ++ [((⟨kd, nm, al, em, tx, at'⟩ : TokD), Value.slice A2 al.length c2)]).map Prod.fst) := by rw [List.map_append]; exact hst
              clear hown' hgr' hrow2 hown2 hst
              go_wp2
              go_roundw
              case rel => exact ⟨z, f, _, A', c', by go_num, hz2, hst2, by omega, by rw [List.length_append]; rfl, hrow5, hb4, by rw [List.length_append, List.length_singleton]; omega⟩
              case measure => simp [intOf]; omega
          · rw [if_pos hx] at hst
            have hxb : (x2 != 0) = true := by simpa using hx
            subst hst
            go_wp2_with fail
            refine (cC _).mono ?_
            rintro e w2 ⟨u, rfl, hown, b2⟩
            simp only [tokVal] at hown ⊢
            obtain ⟨A2, c2, rfl⟩ := own_form hown
            have hb2 : Below w.heap.size w w2 := hbel.trans (b2.mono hz)
            clear hrow hown b2 hbel hok hx
            go_wp2
            exact bodyPost_ret (v := .tuple #[.slice none 0 0, .int .i64 x1, .int .i64 x2]) (by simp [results, Tryd.results46, go_sem]) rfl ⟨_, [], rfl, rfl, ⟨World.ownsRow_nil _ _ _ _, fun p hp => by cases hp⟩, hb2.alloc (by have := hb2.size; omega) _⟩
        · rw [if_neg hlt] at hst
          have hkz : ¬ (k : Int) < (s.size : Int) := by omega
          subst hst
          go_wp2
          exact bodyPost_ret (v := .tuple #[.slice A ps.length c, .int .i64 s.size, .int .i64 0]) (by simp [results, Tryd.results46, go_sem]) rfl ⟨_, ps, rfl, rfl, hrow, hbel⟩
    · rw [hB] at hE cB
      rw [if_pos (show true = true from rfl)] at hE
      have hq3 : 3 ≤ s.size := by
        have := hasP_len (i := 0) hB (by decide)
        rw [hsl] at this
        simpa using this
      clear hB hsl
      go_enter Tryd.func46, Tryd.ntmps46
      go_wp2_with fail
      refine (cK _).mono ?_
      rintro e w1 ⟨rfl, b1⟩
      (go_wp2_with fail); (refine (cB _).mono ?_); (rintro e w' ⟨rfl, rfl⟩)
      go_wp2
      go_loopw [5, 7] (fun a v wr => ∃ (k f : Nat) (ps : List (TokD × Value)) (A : Option Addr) (c : Nat), a = .int .i64 k ∧ k ≤ s.size ∧ TP = tokGo s f k (ps.map Prod.fst) ∧ s.size - k < f ∧ v = .slice A ps.length c ∧ TokRow wr w.heap.size (.slice A ps.length c) ps ∧ Below w.heap.size w wr ∧ ps.length ≤ k) (fun a _ _ => s.size - (intOf a).toNat)
      case atStart => exact ⟨3, s.size + 1, [], none, 0, rfl, hq3, hE, by omega, rfl, ⟨World.ownsRow_nil _ _ _ _, fun p hp => by cases hp⟩, b1, Nat.zero_le _⟩
      case round =>
        clear hE
        obtain ⟨k, f, ps, A, c, rfl, hk, hst, hf, rfl, hrow, hbel, hpl⟩ := hrel
        obtain ⟨f, rfl⟩ : ∃ g, f = g + 1 := ⟨f - 1, by omega⟩
        rw [tokGo] at hst
        have hz := hbel.size
        by_cases hlt : k < s.size
        · rw [if_pos hlt] at hst
          have hkz : (k : Int) < (s.size : Int) := by omega
          have cC : ∀ wx, _ := fun wx => tref_construct s k wx hs hlt
          have hok := consP_ok s k hlt
          generalize consP s k = cp at *
          obtain ⟨⟨kd, nm, al, em, tx, at'⟩, x1, x2⟩ := cp
          simp only at hst hok
          by_cases hx : x2 = 0
          · rw [if_neg (by simpa using hx)] at hst
            obtain ⟨z, rfl, hz1, hz2⟩ := hok hx
            subst hx
            rw [Int.toNat_natCast] at hst
            go_wp2_with fail
            refine (cC _).mono ?_
            rintro e w2 ⟨u, rfl, hown, b2⟩
            simp only [tokVal] at hown ⊢
            obtain ⟨A2, c2, rfl⟩ := own_form hown
            have hrow2 := hrow.below b2
            have hown2 := Go.Joins.ownsRow_le hown hz
            have hb2 : Below w.heap.size w w2 := hbel.trans (b2.mono hz)
            clear hrow hown b2 hbel
            by_cases hkd : kd = 3
            · by_cases htx : tx = []
              · rw [if_neg (by rintro (h | h) <;> contradiction)] at hst
                have hte : (ofBytes tx).toList.isEmpty = true := by rw [ByteArray.toList_eq, ofBytes_list, htx]; rfl
                subst hkd
                clear htx
                generalize ofBytes tx = TX at *
                go_wp2
                go_roundw
                case rel => exact ⟨z, f, ps, A, c, by go_num, hz2, hst, by omega, rfl, hrow2.below ((Below.refl _ _).alloc (Nat.le_refl _) _), hb2.alloc (by have := hb2.size; omega) _, by omega⟩
                case measure => simp [intOf]; omega
              · rw [if_pos (.inr htx)] at hst
                have hte : (ofBytes tx).toList.isEmpty = false := by
                  rw [ByteArray.toList_eq, ofBytes_list]
                  cases tx with
                  | nil => exact absurd rfl htx
                  | cons _ _ => rfl
                subst hkd
                go_wp2_with (at_builtin; refine wpList_append_own _ rfl (.tmp 45) (.tmp 47) 84 rfl w.heap.size 91 i0 (.agg #[.int .i64 0, .string ⟨#[]⟩, .slice none 0 0, .bool false, .string ⟨#[]⟩, .int .i64 0]) 6 80 Tryd.underlying84 hi0 hi1 hi3 hi4 rfl (by decide) (.slice A ps.length c) ps.length (toksCells ps) rfl ((hrow2.1.alloc _).alloc _) ⟨w2.heap.size + 1, 0, none⟩ 1 1 (tokCells (⟨3, nm, al, em, tx, at'⟩, .slice A2 al.length c2)) rfl rfl (tok_new2 _ _ _ (⟨3, nm, al, em, tx, at'⟩, .slice A2 al.length c2)) (tok_one _ _ _ _) (by unfold maxLen; omega) (by omega) (by simp; have := hb2.size; omega) ?_; intro v' w4 hown' hgr' _; obtain ⟨A', c', rfl⟩ := own_form hown')
                have hb4 : Below w.heap.size w w4 := ((hb2.alloc (by have := hb2.size; omega) _).alloc (by simp; have := hb2.size; omega) _).grown hgr' (by simp; have := hb2.size; omega) (fun g hg => (hrow2.1.lt g hg).1)
                have hrow5 : TokRow w4 w.heap.size (.slice A' (ps ++ [((⟨3, nm, al, em, tx, at'⟩ : TokD), Value.slice A2 al.length c2)]).length c') (ps ++ [((⟨3, nm, al, em, tx, at'⟩ : TokD), Value.slice A2 al.length c2)]) := by
                  refine ⟨?_, fun q hq => ?_⟩
                  · rw [toksCells_app, List.length_append]
                    exact hown'
                  · have hq2 : w2.ownsRow w.heap.size 43 4 q.2 q.1.al.length (attrsCells q.1.al) := by
                      rcases List.mem_append.1 hq with h | h
                      · exact hrow2.2 q h
                      · rw [List.mem_singleton.1 h]; exact hown2
                    exact ((hq2.alloc _).alloc _).kept hgr' (rows_apart hq2 hrow2.1 tok_apart)
                have hst2 : TP = tokGo s f z ((ps ++ [((⟨3, nm, al, em, tx, at'⟩ : TokD), Value.slice A2 al.length c2)]).map Prod.fst) := by rw [List.map_append]; exact hst
                clear hown' hgr' hrow2 hown2 hst
                go_wp2
                go_roundw
                case rel => exact ⟨z, f, _, A', c', by go_num, hz2, hst2, by omega, by rw [List.length_append]; rfl, hrow5, hb4, by rw [List.length_append, List.length_singleton]; omega⟩
                case measure => simp [intOf]; omega
            · rw [if_pos (.inl hkd)] at hst
              have hkdb : (kd != 3) = true := by simpa using hkd
              go_wp2_with (at_builtin; refine wpList_append_own _ rfl (.tmp 45) (.tmp 47) 84 rfl w.heap.size 91 i0 (.agg #[.int .i64 0, .string ⟨#[]⟩, .slice none 0 0, .bool false, .string ⟨#[]⟩, .int .i64 0]) 6 80 Tryd.underlying84 hi0 hi1 hi3 hi4 rfl (by decide) (.slice A ps.length c) ps.length (toksCells ps) rfl ((hrow2.1.alloc _).alloc _) ⟨w2.heap.size + 1, 0, none⟩ 1 1 (tokCells (⟨kd, nm, al, em, tx, at'⟩, .slice A2 al.length c2)) rfl rfl (tok_new2 _ _ _ (⟨kd, nm, al, em, tx, at'⟩, .slice A2 al.length c2)) (tok_one _ _ _ _) (by unfold maxLen; omega) (by omega) (by simp; have := hb2.size; omega) ?_; intro v' w4 hown' hgr' _; obtain ⟨A', c', rfl⟩ := own_form hown')
              have hb4 : Below w.heap.size w w4 := ((hb2.alloc (by have := hb2.size; omega) _).alloc (by simp; have := hb2.size; omega) _).grown hgr' (by simp; have := hb2.size; omega) (fun g hg => (hrow2.1.lt g hg).1)
              have hrow5 : TokRow w4 w.heap.size (.slice A' (ps ++ [((⟨kd, nm, al, em, tx, at'⟩ : TokD), Value.slice A2 al.length c2)]).length c') (ps ++ [((⟨kd, nm, al, em, tx, at'⟩ : TokD), Value.slice A2 al.length c2)]) := by
                refine ⟨?_, fun q hq => ?_⟩
                · rw [toksCells_app, List.length_append]
                  exact hown'
                · have hq2 : w2.ownsRow w.heap.size 43 4 q.2 q.1.al.length (attrsCells q.1.al) := by
                    rcases List.mem_append.1 hq with h | h
                    · exact hrow2.2 q h
                    · rw [List.mem_singleton.1 h]; exact hown2
                  exact ((hq2.alloc _).alloc _).kept hgr' (rows_apart hq2 hrow2.1 tok_apart)
              have hst2 : TP = tokGo s f z ((ps ++ [((⟨kd, nm, al, em, tx, at'⟩ : TokD), Value.slice A2 al.length c2)]).map Prod.fst) := by rw [List.map_append]; exact hst
              clear hown' hgr' hrow2 hown2 hst
              go_wp2
              go_roundw
              case rel => exact ⟨z, f, _, A', c', by go_num, hz2, hst2, by omega, by rw [List.length_append]; rfl, hrow5, hb4, by rw [List.length_append, List.length_singleton]; omega⟩
              case measure => simp [intOf]; omega
          · rw [if_pos hx] at hst
            have hxb : (x2 != 0) = true := by simpa using hx
            subst hst
            go_wp2_with fail
            refine (cC _).mono ?_
            rintro e w2 ⟨u, rfl, hown, b2⟩
            simp only [tokVal] at hown ⊢
            obtain ⟨A2, c2, rfl⟩ := own_form hown
            have hb2 : Below w.heap.size w w2 := hbel.trans (b2.mono hz)
            clear hrow hown b2 hbel hok hx
            go_wp2
            exact bodyPost_ret (v := .tuple #[.slice none 0 0, .int .i64 x1, .int .i64 x2]) (by simp [results, Tryd.results46, go_sem]) rfl ⟨_, [], rfl, rfl, ⟨World.ownsRow_nil _ _ _ _, fun p hp => by cases hp⟩, hb2.alloc (by have := hb2.size; omega) _⟩
        · rw [if_neg hlt] at hst
          have hkz : ¬ (k : Int) < (s.size : Int) := by omega
          subst hst
          go_wp2
          exact bodyPost_ret (v := .tuple #[.slice A ps.length c, .int .i64 s.size, .int .i64 0]) (by simp [results, Tryd.results46, go_sem]) rfl ⟨_, ps, rfl, rfl, hrow, hbel⟩
  · rw [if_pos hk] at hE
    have hkb : ((k2 : Int) != 0) = true := by simpa using hk
    subst hE
    go_enter Tryd.func46, Tryd.ntmps46
    go_wp2_with fail
    refine (cK _).mono ?_
    rintro e w1 ⟨rfl, b1⟩
    go_wp2
    exact bodyPost_ret (v := .tuple #[.slice none 0 0, .int .i64 k1, .int .i64 k2]) (by simp [results, Tryd.results46, go_sem]) rfl ⟨_, [], rfl, rfl, ⟨World.ownsRow_nil _ _ _ _, fun p hp => by cases hp⟩, b1⟩
theorem kblock_lt {w : World} {a : Addr} {v : Value} (hc : w.cell? a = some v) : a.block < w.heap.size := by
  rcases Nat.lt_or_ge a.block w.heap.size with h' | h'
  · exact h'
  · simp [World.cell?, Array.getElem?_eq_none h'] at hc
theorem AttrsAt.below {w w' : World} {p : Option Addr} {l : List AttrD} (h : AttrsAt w p l) (hb : Below w.heap.size w w') : AttrsAt w' p l := by
  intro i hi
  obtain ⟨a, ha, h0, h1, h2, h3⟩ := h i hi
  exact ⟨a, ha, (hb.cell (kblock_lt h0)).trans h0, (hb.cell (kblock_lt h1)).trans h1, (hb.cell (kblock_lt h2)).trans h2, (hb.cell (kblock_lt h3)).trans h3⟩
def TokensAt (w : World) (p : Option Addr) (l : List TokD) : Prop := ∀ i (h : i < l.length), ∃ a q c, p = some a ∧
  (w.cell? (a.add (i * 6)) = some (.int .i64 l[i].kind) ∧ w.cell? ((a.add (i * 6)).add 1) = some (.string (ofBytes l[i].nm)) ∧ w.cell? ((a.add (i * 6)).add 2) = some (.slice q l[i].al.length c) ∧ w.cell? ((a.add (i * 6)).add 3) = some (.bool l[i].em) ∧ w.cell? ((a.add (i * 6)).add 4) = some (.string (ofBytes l[i].tx)) ∧ w.cell? ((a.add (i * 6)).add 5) = some (.int .i64 l[i].at')) ∧ AttrsAt w q l[i].al
theorem TokensAt.below {w w' : World} {p : Option Addr} {l : List TokD} (h : TokensAt w p l) (hb : Below w.heap.size w w') : TokensAt w' p l := by
  intro i hi
  obtain ⟨a, q, c, ha, ⟨h0, h1, h2, h3, h4, h5⟩, h6⟩ := h i hi
  exact ⟨a, q, c, ha, ⟨(hb.cell (kblock_lt h0)).trans h0, (hb.cell (kblock_lt h1)).trans h1, (hb.cell (kblock_lt h2)).trans h2, (hb.cell (kblock_lt h3)).trans h3, (hb.cell (kblock_lt h4)).trans h4, (hb.cell (kblock_lt h5)).trans h5⟩, h6.below hb⟩
theorem toksCells_at : ∀ (l : List (TokD × Value)) (i : Nat) (h : i < l.length) (k : Nat), k < 6 → (toksCells l)[i * 6 + k]? = (tokCells l[i])[k]?
  | [], i, h, _, _ => absurd h (Nat.not_lt_zero _)
  | x :: r, 0, _, k, hk => by
    show (tokCells x ++ toksCells r)[0 * 6 + k]? = (tokCells x)[k]?
    rw [List.getElem?_append_left (by show 0 * 6 + k < 6; omega)]
    simp
  | x :: r, i + 1, h, k, hk => by
    show (tokCells x ++ toksCells r)[(i + 1) * 6 + k]? = _
    rw [List.getElem?_append_right (by show 6 ≤ (i + 1) * 6 + k; omega)]
    show (toksCells r)[(i + 1) * 6 + k - 6]? = _
    rw [show (i + 1) * 6 + k - 6 = i * 6 + k by omega, toksCells_at r i (by simpa using h) k hk]
    rfl
theorem tokens_of_row {w : World} {B : Nat} {A : Option Addr} {n c : Nat} {ps : List (TokD × Value)} (h : TokRow w B (.slice A n c) ps) : n = ps.length ∧ TokensAt w A (ps.map Prod.fst) := by
  obtain ⟨h1, h2⟩ := h
  obtain ⟨A', c', he⟩ := own_form h1
  injection he with e1 e2 e3
  refine ⟨e2, fun i hi => ?_⟩
  rw [List.length_map] at hi
  have hc := fun g => h1.cells (g := g)
  rcases h1.2 with ⟨h0, h00⟩ | ⟨g, cap, cur, hv, _⟩
  · omega
  · injection hv with hA
    subst hA
    have hk : ∀ k v, k < 6 → (tokCells ps[i])[k]? = some v → w.cell? (((⟨g, 0, none⟩ : Addr).add (i * 6)).add k) = some v := by
      intro k v hk hv
      rw [addr_add2, ← addr_add]
      exact hc g rfl (i * 6 + k) v (by rw [toksCells_at ps i hi k hk]; exact hv)
    have hrow := h2 ps[i] (List.getElem_mem _)
    obtain ⟨A2, c2, ha⟩ := own_form hrow
    have g0 := hk 0 _ (by omega) rfl
    rw [addr_add2, Nat.add_zero, ← addr_add] at g0
    have g2 := hk 2 _ (by omega) rfl
    rw [ha] at hrow
    simp only [List.getElem_map]
    refine ⟨_, A2, c2, rfl, ⟨g0, hk 1 _ (by omega) rfl, ?_, hk 3 _ (by omega) rfl, hk 4 _ (by omega) rfl, hk 5 _ (by omega) rfl⟩, attrs_of_row hrow⟩
    rw [g2, ha]
end Go.Proofs.YtoehcholbcchcaaDoor
end
section
namespace Go.Proofs.YtoehcholbcchcaaDoor
open Go.RowKit
def inS (n : Nat) (x : Int) : Prop := 0 ≤ x ∧ x ≤ (n : Int)
theorem contF_bd (l : List UInt8) (j : Nat) (v : Bool) : ∀ f i out, inS j (contF l j v f i out).2.1
  | 0, i, out => ⟨by show 0 ≤ (j : Int); omega, Int.le_refl _⟩
  | f + 1, i, out => by
    rw [contF]
    split
    · split
      · split
        · exact contF_bd l j v f _ _
        · exact ⟨by simp only; omega, by simp only; omega⟩
      · exact contF_bd l j v f _ _
    · exact ⟨by simp only; omega, Int.le_refl _⟩
theorem contP_bd (l : List UInt8) (i j : Nat) (v : Bool) : inS j (contP l i j v).2.1 := contF_bd l j v _ _ _
theorem inS_mono {n m : Nat} {x : Int} (h : inS n x) (hm : n ≤ m) : inS m x := ⟨h.1, by have := h.2; omega⟩
theorem misP_bd {n i : Nat} {k : Int} (hi : i ≤ n) (hk : 0 ≤ k) : inS n (misP n i k).1 := by
  unfold misP inS
  split <;> simp only <;> omega
theorem attrP_bd (s : ByteArray) (i a : Nat) (hi : i ≤ s.size) (ha : a ≤ s.size) : inS s.size (attrP s i a).2.1 := by
  have hsl : s.data.toList.length = s.size := by simp
  have a4 : ∀ N m e, e ≤ s.size → inS s.size (attr4 s i N e (contP s.data.toList (m + 1) e true)).2.1 := by
    intro N m e he
    unfold attr4
    split
    · exact inS_mono (contP_bd _ _ _ _) he
    · split
      · exact ⟨by simp only; omega, by simp only; omega⟩
      · split <;> exact ⟨by simp only; omega, by simp only; omega⟩
  rw [attrP_def]
  have hb := nmP_le s a ha
  split
  · exact misP_bd hi (by omega)
  · generalize (s.data.toList.drop a).take (nmP s a - a) = N at *
    generalize nmP s a = n at *
    have hk := spP_le s.data.toList n (by omega)
    rw [hsl] at hk
    generalize spP s.data.toList n = k at *
    unfold attr1
    split
    · rename_i h2
      obtain ⟨hkl, _⟩ := hasP_one _ _ _ h2
      have hm := spP_le s.data.toList (k + 1) (by omega)
      rw [hsl] at hm
      generalize spP s.data.toList (k + 1) = m at *
      have q := fun x => quoAt_bd s.data.toList x (m + 1)
      unfold attr2
      split
      · rename_i h3
        obtain ⟨hml, _⟩ := hasP_one _ _ _ h3
        exact a4 N m _ (by have := (q 34).2 (by omega); omega)
      · split
        · rename_i h3
          obtain ⟨hml, _⟩ := hasP_one _ _ _ h3
          exact a4 N m _ (by have := (q 39).2 (by omega); omega)
        · exact misP_bd hi (by omega)
    · exact misP_bd hi (by omega)
theorem startGo_bd (s : ByteArray) (i : Nat) (N : List UInt8) (hi : i ≤ s.size) : ∀ f a acc, s.size - a < f → a ≤ s.size → inS s.size (startGo s i N f a acc).p1
  | 0, a, acc, hf, _ => absurd hf (by omega)
  | f + 1, a, acc, hf, ha => by
    have hsl : s.data.toList.length = s.size := by simp
    rw [startGo]
    have hk := spP_le s.data.toList a (by omega)
    rw [hsl] at hk
    generalize spP s.data.toList a = m at *
    split
    · rename_i h1
      have := hasP_len h1 (by decide)
      simp only [List.length_cons, List.length_nil] at this
      exact ⟨by simp only; omega, by simp only; omega⟩
    · split
      · rename_i h1
        have := hasP_len h1 (by decide)
        simp only [List.length_cons, List.length_nil] at this
        exact ⟨by simp only; omega, by simp only; omega⟩
      · split
        · exact misP_bd hi (by omega)
        · split
          · exact misP_bd hi (by omega)
          · split
            · exact attrP_bd s i m hi (by omega)
            · rename_i h4 h5
              obtain ⟨z, hz, hz1, hz2⟩ := attrP_ok s i m (by omega) (by simpa using h5)
              split
              · exact ⟨by simp only; omega, by simp only; omega⟩
              · rw [hz, Int.toNat_natCast]
                exact startGo_bd s i N hi f z _ (by omega) hz2
theorem skipP_bd (s : ByteArray) (i n : Nat) (t : List UInt8) (hi : i + n ≤ s.size) : inS s.size (skipP s.data.toList i n t).1 := by
  have hsl : s.data.toList.length = s.size := by simp
  unfold skipP
  have hb := nextP_bd s.data.toList (i + n) t
  rw [hsl] at hb
  split
  · exact ⟨by simp only; omega, by simp only; omega⟩
  · exact ⟨by simp only; omega, by simp only; omega⟩
theorem consP_bd (s : ByteArray) (i : Nat) (hi : i < s.size) : inS s.size (consP s i).2.1 := by
  have hsl : s.data.toList.length = s.size := by simp
  have hii : inS s.size (i : Int) := ⟨by omega, by omega⟩
  unfold consP
  split
  · rename_i h1
    have := hasP_len h1 (by decide)
    rw [hsl] at this
    exact skipP_bd s i 2 _ this
  · split
    · rename_i h2
      have := hasP_len h2 (by decide)
      rw [hsl] at this
      exact skipP_bd s i 4 _ this
    · split
      · rename_i h3
        have := hasP_len h3 (by decide)
        rw [hsl] at this
        unfold cdataP
        split <;> exact skipP_bd s i 9 _ this
      · split
        · exact hii
        · split
          · exact hii
          · split
            · rename_i h6
              have hl := hasP_len h6 (by decide)
              rw [hsl] at hl
              simp only
              rw [endP_def]
              have hb := nmP_le s (i + 2) hl
              generalize nmP s (i + 2) = n at *
              have hk := spP_le s.data.toList n (by omega)
              generalize spP s.data.toList n = k at *
              split
              · exact misP_bd (by omega) (by omega)
              · split
                · rename_i h8
                  have := hasP_len h8 (by decide)
                  simp only [List.length_cons, List.length_nil] at this
                  exact ⟨by simp only; omega, by simp only; omega⟩
                · exact misP_bd (by omega) (by omega)
            · split
              · rename_i h7
                have hl := hasP_len h7 (by decide)
                rw [hsl] at hl
                simp only
                unfold startP
                have hb := nmP_le s (i + 1) hl
                split
                · exact misP_bd (by omega) (by omega)
                · exact startGo_bd s i _ (by omega) _ _ _ (by omega) hb.2
              · unfold dataP
                exact inS_mono (contP_bd _ _ _ _) (dataEnd_bd s i (by omega)).2
theorem consP_at (s : ByteArray) (i : Nat) (h0 : (consP s i).2.2 = 0) (hk : (consP s i).1.kind ≠ 3 ∨ (consP s i).1.tx ≠ []) : (consP s i).1.at' = (i : Int) := by
  unfold consP at h0 hk ⊢
  split
  · rename_i h1
    rw [if_pos h1] at hk
    rcases hk with h | h <;> exact absurd rfl h
  · rename_i h1
    rw [if_neg h1] at hk h0
    split
    · rename_i h2
      rw [if_pos h2] at hk
      rcases hk with h | h <;> exact absurd rfl h
    · rename_i h2
      rw [if_neg h2] at hk h0
      split
      · rename_i h3
        rw [if_pos h3] at h0
        unfold cdataP at h0 ⊢
        split
        · rename_i h4
          rw [if_pos h4] at h0
          exact absurd h0 h4
        · rfl
      · rename_i h3
        rw [if_neg h3] at hk h0
        split
        · rename_i h4
          rw [if_pos h4] at h0
          simp at h0
        · rename_i h4
          rw [if_neg h4] at hk h0
          split
          · rename_i h5
            rw [if_pos h5] at h0
            simp at h0
          · split
            · rfl
            · split <;> rfl
def Rises : Int → Nat → List TokD → Prop
  | _, _, [] => True
  | lo, n, t :: r => lo < t.at' ∧ t.at' < (n : Int) ∧ Rises t.at' n r
theorem Rises_app (n : Nat) : ∀ (l : List TokD) (lo : Int) (k : Nat) (t : TokD), Rises lo k l → lo < (k : Int) → k < n → t.at' = (k : Int) → Rises lo (k + 1) (l ++ [t])
  | [], lo, k, t, _, h1, _, h3 => ⟨by rw [h3]; exact h1, by rw [h3]; omega, trivial⟩
  | u :: r, lo, k, t, h, h1, h2, h3 => ⟨h.1, by have := h.2.1; omega, Rises_app n r u.at' k t h.2.2 h.2.1 h2 h3⟩
theorem Rises_mono : ∀ (l : List TokD) (lo : Int) (k m : Nat), Rises lo k l → k ≤ m → Rises lo m l
  | [], _, _, _, _, _ => trivial
  | u :: r, lo, k, m, h, hm => ⟨h.1, by have := h.2.1; omega, Rises_mono r u.at' k m h.2.2 hm⟩
def OffsOk (n : Nat) (R : List TokD × Int × Int) : Prop := Rises (-1) n R.1 ∧ inS n R.2.1 ∧ (R.2.2 = 0 → R.2.1 = (n : Int)) ∧ (R.2.2 ≠ 0 → R.1 = [])
theorem tokGo_ok (s : ByteArray) : ∀ f a acc, s.size - a < f → a ≤ s.size → Rises (-1) a acc → OffsOk s.size (tokGo s f a acc)
  | 0, a, acc, hf, _, _ => absurd hf (by omega)
  | f + 1, a, acc, hf, ha, hr => by
    rw [tokGo]
    split
    · rename_i h1
      split
      · rename_i h2
        exact ⟨trivial, consP_bd s a h1, fun h => absurd h h2, fun _ => rfl⟩
      · rename_i h2
        have h0 : (consP s a).2.2 = 0 := by simpa using h2
        obtain ⟨z, hz, hz1, hz2⟩ := consP_ok s a h1 h0
        rw [hz, Int.toNat_natCast]
        refine tokGo_ok s f z _ (by omega) hz2 ?_
        split
        · rename_i h3
          exact Rises_mono _ _ (a + 1) _ (Rises_app (a + 1) acc (-1) a _ hr (by omega) (by omega) (consP_at s a h0 h3)) (by omega)
        · exact Rises_mono _ _ a _ hr (by omega)
    · exact ⟨Rises_mono _ _ a _ hr ha, ⟨by simp only; omega, Int.le_refl _⟩, fun _ => rfl, fun h => absurd rfl h⟩
theorem toksP_ok (s : ByteArray) : OffsOk s.size (toksP s) := by
  have hsl : s.data.toList.length = s.size := by simp
  unfold toksP
  split
  · rename_i h
    have hb := (chk_le s).1
    exact ⟨trivial, ⟨by simp only; omega, by simp only; omega⟩, fun h0 => absurd (by simpa using h0) h, fun _ => rfl⟩
  · refine tokGo_ok s _ _ _ (by split <;> omega) ?_ trivial
    split
    · rename_i h
      have := hasP_len (i := 0) h (by decide)
      rw [hsl] at this
      simpa using this
    · omega
end Go.Proofs.YtoehcholbcchcaaDoor
end
section
namespace Go.Proofs.YtoehcholbcchcaaDoor
open Go.RowKit
theorem ofBytes_app (a b : List UInt8) : ofBytes (a ++ b) = ofBytes a ++ ofBytes b := by
  apply ByteArray.ext
  apply Array.toList_inj.1
  rw [ByteArray.data_append, Array.toList_append, ofBytes_list, ofBytes_list, ofBytes_list]
theorem at_len (pre : List UInt8) (c : UInt8) (r : List UInt8) (n : Nat) (h : n = pre.length) : (pre ++ c :: r)[n]? = some c := by
  rw [h, List.getElem?_append_right (Nat.le_refl _), Nat.sub_self]; rfl
end Go.Proofs.YtoehcholbcchcaaDoor
end
section
namespace Go.Proofs.YtoehcholbcchcaaDoor
open Go.RowKit
theorem bsl (s : ByteArray) : s.data.toList.length = s.size := by simp
theorem quoAt_le (l : List UInt8) (x : UInt8) (e : Nat) (h : e ≤ l.length) : e ≤ quoAt l x e ∧ quoAt l x e ≤ l.length := by
  unfold quoAt
  have := (List.takeWhile_prefix (fun c => c != x && c != 60) (l := l.drop e)).length_le
  rw [List.length_drop] at this
  omega
theorem ff : ¬ (false = true) := by decide
end Go.Proofs.YtoehcholbcchcaaDoor
end
