/- The reference of layer 6: start, construct: what each returns. -/
import Derived.Test.YtpphpnkijokffaaDoorTokE
import Derived.Lib.SmallJoins
import Derived.BigRegion
namespace Go.Proofs.YtpphpnkijokffaaDoor
open Go.RowKit

/-! ### Plain facts of layer 6: what attr and start return; a row of attributes. -/
theorem quoAt_bd (l : List UInt8) (x : UInt8) (e : Nat) : e ≤ quoAt l x e ∧ (e ≤ l.length → quoAt l x e ≤ l.length) := by
  unfold quoAt
  have h := (List.takeWhile_prefix (fun c => c != x && c != 60) (l := l.drop e)).length_le
  rw [List.length_drop] at h
  omega
theorem misP_ne (n i : Nat) (k : Int) : (misP n i k).2 ≠ 0 := by
  unfold misP
  split <;> simp
/-- An attribute that attr accepts ends behind its beginning, within the string. -/
theorem attrP_ok (s : ByteArray) (i a : Nat) (ha : a ≤ s.size) (h : (attrP s i a).2.2 = 0) : ∃ z : Nat, (attrP s i a).2.1 = (z : Int) ∧ a < z ∧ z ≤ s.size := by
  have hsl : s.data.toList.length = s.size := by simp
  have a4 : ∀ N m e c, e ≤ s.size → a ≤ m → m + 1 ≤ e → (attr4 s i N e c).2.2 = 0 → ∃ z : Nat, (attr4 s i N e c).2.1 = (z : Int) ∧ a < z ∧ z ≤ s.size := by
    intro N m e c he hm hme h
    unfold attr4 at h ⊢
    split at h
    · rename_i h1; exact absurd h h1
    · rename_i h1
      rw [if_neg h1]
      split at h
      · exact absurd h (by simp)
      · rename_i h2
        rw [if_neg h2]
        split at h
        · exact absurd h (by simp)
        · rename_i h3
          rw [if_neg h3]
          exact ⟨e + 1, by simp, by omega, by omega⟩
  have a2 : ∀ N m, a ≤ m → m + 1 ≤ s.size → (attr2 s i N m).2.2 = 0 → ∃ z : Nat, (attr2 s i N m).2.1 = (z : Int) ∧ a < z ∧ z ≤ s.size := by
    intro N m hm hms h
    unfold attr2 at h ⊢
    have q := fun x => quoAt_bd s.data.toList x (m + 1)
    split at h
    · rename_i h1
      rw [if_pos h1]
      exact a4 N m _ _ (by have := (q 34).2 (by omega); omega) hm (q 34).1 h
    · rename_i h1
      rw [if_neg h1]
      split at h
      · rename_i h2
        rw [if_pos h2]
        exact a4 N m _ _ (by have := (q 39).2 (by omega); omega) hm (q 39).1 h
      · exact absurd h (misP_ne _ _ _)
  rw [attrP_def] at h ⊢
  have hb := nmP_le s a ha
  split at h
  · exact absurd h (misP_ne _ _ _)
  · rename_i h1
    rw [if_neg h1]
    generalize (s.data.toList.drop a).take (nmP s a - a) = N at *
    generalize nmP s a = n at *
    have hk := spP_le s.data.toList n (by omega)
    rw [hsl] at hk
    generalize spP s.data.toList n = k at *
    unfold attr1 at h ⊢
    split at h
    · rename_i h2
      rw [if_pos h2]
      obtain ⟨hkl, _⟩ := hasP_one _ _ _ h2
      have hm := spP_le s.data.toList (k + 1) (by omega)
      rw [hsl] at hm
      generalize spP s.data.toList (k + 1) = m at *
      rcases Nat.lt_or_ge m s.size with hms | hms
      · exact a2 N m (by omega) (by omega) h
      · exfalso
        have h34 : hasP s.data.toList (m : Int) [34] = false := by
          rw [← Bool.not_eq_true]; intro hh; obtain ⟨hx, _⟩ := hasP_one _ _ _ hh; omega
        have h39 : hasP s.data.toList (m : Int) [39] = false := by
          rw [← Bool.not_eq_true]; intro hh; obtain ⟨hx, _⟩ := hasP_one _ _ _ hh; omega
        unfold attr2 at h
        rw [h34, h39, if_neg (by decide), if_neg (by decide)] at h
        exact absurd h (misP_ne _ _ _)
    · exact absurd h (misP_ne _ _ _)

/-! ### rows of attributes -/
def attrCells (x : AttrD) : List Value := [.string x.sp, .string x.nm, .string x.va, .int .i64 x.at']
def attrsCells (l : List AttrD) : List Value := l.flatMap attrCells
theorem attrsCells_len (l : List AttrD) : (attrsCells l).length = l.length * 4 := by
  induction l with
  | nil => rfl
  | cons x r ih => rw [attrsCells, List.flatMap_cons, List.length_append, List.length_cons]; rw [attrsCells] at ih; rw [ih]; show 4 + _ = _; omega
theorem attrsCells_app (l m : List AttrD) : attrsCells (l ++ m) = attrsCells l ++ attrsCells m := by unfold attrsCells; rw [List.flatMap_append]
theorem attrsCells_at : ∀ (l : List AttrD) (i : Nat) (h : i < l.length) (k : Nat), k < 4 → (attrsCells l)[i * 4 + k]? = (attrCells l[i])[k]?
  | [], i, h, _, _ => absurd h (Nat.not_lt_zero _)
  | x :: r, 0, _, k, hk => by
    show (attrCells x ++ attrsCells r)[0 * 4 + k]? = (attrCells x)[k]?
    rw [List.getElem?_append_left (by show 0 * 4 + k < 4; omega)]
    simp
  | x :: r, i + 1, h, k, hk => by
    show (attrCells x ++ attrsCells r)[(i + 1) * 4 + k]? = _
    rw [List.getElem?_append_right (by show 4 ≤ (i + 1) * 4 + k; omega)]
    show (attrsCells r)[(i + 1) * 4 + k - 4]? = _
    rw [show (i + 1) * 4 + k - 4 = i * 4 + k by omega, attrsCells_at r i (by simpa using h) k hk]
    rfl
theorem addr_add2 (g j k : Nat) : ((⟨g, 0, none⟩ : Addr).add j).add k = ⟨g, j + k, none⟩ := by rw [addr_add]; unfold Addr.add; split <;> simp_all
/-- A row of attributes that is owned lies in memory. -/
theorem attrs_of_row {w : World} {base : Nat} {t : TypeId} {A : Option Addr} {n c : Nat} {l : List AttrD} (h : w.ownsRow base t 4 (.slice A n c) n (attrsCells l)) : AttrsAt w A l := by
  intro i hi
  have hc := fun g => h.cells (g := g)
  rcases h.2 with ⟨h0, h1⟩ | ⟨g, cap, cur, hv, _⟩
  · have := h.1
    rw [attrsCells_len, h1] at this
    omega
  · injection hv with hA
    subst hA
    have hk : ∀ k v, k < 4 → (attrCells l[i])[k]? = some v → w.cell? (((⟨g, 0, none⟩ : Addr).add (i * 4)).add k) = some v := by
      intro k v hk hv
      rw [addr_add2, ← addr_add]
      exact hc g rfl (i * 4 + k) v (by rw [attrsCells_at l i hi k hk]; exact hv)
    refine ⟨_, rfl, ?_, hk 1 _ (by omega) rfl, hk 2 _ (by omega) rfl, hk 3 _ (by omega) rfl⟩
    have := hk 0 _ (by omega) rfl
    rwa [addr_add2, Nat.add_zero, ← addr_add] at this
theorem row_below {B : Nat} {e : TypeId} {k : Nat} {v : Value} {n : Nat} {xs : List Value} {w w' : World} (h : w.ownsRow B e k v n xs) (hb : Below w.heap.size w w') : w'.ownsRow B e k v n xs := by
  refine ⟨h.1, ?_⟩
  rcases h.2 with h0 | ⟨g, cap, cur, hv, hB, hg, rest⟩
  · exact .inl h0
  · have hlt : g < w.heap.size := (Array.getElem?_eq_some_iff.1 hg).1
    exact .inr ⟨g, cap, cur, hv, hB, (hb.block g hlt).trans hg, rest⟩

/-! ### start -/
def attrOf (N V : List UInt8) (a : Nat) : AttrD := ⟨⟨#[]⟩, ofBytes N, ofBytes V, a⟩
structure StartR where
  nm : List UInt8
  al : List AttrD
  em : Bool
  p1 : Int
  p2 : Int
/-- What start returns from a place behind the name or an attribute on, with a bound on the number of steps. -/
def startGo (s : ByteArray) (i : Nat) (N : List UInt8) : Nat → Nat → List AttrD → StartR
  | 0, _, acc => ⟨N, acc, false, 0, 0⟩
  | f + 1, a, acc =>
    if hasP s.data.toList (spP s.data.toList a : Nat) [62] then ⟨N, acc, false, (spP s.data.toList a : Nat) + 1, 0⟩
    else if hasP s.data.toList (spP s.data.toList a : Nat) [47, 62] then ⟨N, acc, true, (spP s.data.toList a : Nat) + 2, 0⟩
    else if hasP s.data.toList (spP s.data.toList a : Nat) [47] then ⟨N, acc, false, (misP s.size i ((spP s.data.toList a : Nat) + 1)).1, (misP s.size i ((spP s.data.toList a : Nat) + 1)).2⟩
    else if spP s.data.toList a = a then ⟨N, acc, false, (misP s.size i (a : Int)).1, (misP s.size i (a : Int)).2⟩
    else if (attrP s i (spP s.data.toList a)).2.2 ≠ 0 then ⟨N, acc, false, (attrP s i (spP s.data.toList a)).2.1, (attrP s i (spP s.data.toList a)).2.2⟩
    else if ∃ x ∈ acc, x.nm = ofBytes (attrP s i (spP s.data.toList a)).1.1 then ⟨N, acc, false, (spP s.data.toList a : Nat), 10⟩
    else startGo s i N f (attrP s i (spP s.data.toList a)).2.1.toNat (acc ++ [attrOf (attrP s i (spP s.data.toList a)).1.1 (attrP s i (spP s.data.toList a)).1.2 (spP s.data.toList a)])
def startP (s : ByteArray) (i : Nat) : StartR :=
  if nmP s (i + 1) = i + 1 then ⟨[], [], false, (misP s.size i ((i + 1 : Nat) : Int)).1, (misP s.size i ((i + 1 : Nat) : Int)).2⟩
  else startGo s i ((s.data.toList.drop (i + 1)).take (nmP s (i + 1) - (i + 1))) (s.size + 1) (nmP s (i + 1)) []
/-! ### The reference of layer 6: start: what it returns. -/
/-- The block of the result: six cells as Go makes them, that may be stored into. -/
def ResAt (w : World) (b : Nat) : Prop := (w.cell? ⟨b, 0, none⟩ = some (.int .i64 0) ∧ w.cell? ⟨b, 1, none⟩ = some (.string ⟨#[]⟩) ∧ w.cell? ⟨b, 2, none⟩ = some (.slice none 0 0) ∧ w.cell? ⟨b, 3, none⟩ = some (.bool false) ∧ w.cell? ⟨b, 4, none⟩ = some (.string ⟨#[]⟩) ∧ w.cell? ⟨b, 5, none⟩ = some (.int .i64 0)) ∧
  w.frozen? ⟨b, 0, none⟩ = false ∧ w.frozen? ⟨b, 1, none⟩ = false ∧ w.frozen? ⟨b, 2, none⟩ = false ∧ w.frozen? ⟨b, 3, none⟩ = false ∧ w.frozen? ⟨b, 4, none⟩ = false ∧ w.frozen? ⟨b, 5, none⟩ = false
theorem ResAt.below {B : Nat} {w w' : World} {b : Nat} (h : ResAt w b) (hb : Below B w w') (hlt : b < B) : ResAt w' b := by
  obtain ⟨⟨r0, r1, r2, r3, r4, r5⟩, q0, q1, q2, q3, q4, q5⟩ := h
  have c := fun o => hb.cell (p := ⟨b, o, none⟩) hlt
  have f := fun o => hb.frozen (p := ⟨b, o, none⟩) hlt
  exact ⟨⟨(c 0).trans r0, (c 1).trans r1, (c 2).trans r2, (c 3).trans r3, (c 4).trans r4, (c 5).trans r5⟩, (f 0).trans q0, (f 1).trans q1, (f 2).trans q2, (f 3).trans q3, (f 4).trans q4, (f 5).trans q5⟩
theorem ResAt.set {w : World} {b : Nat} (h : ResAt w b) {p : Addr} (hp : p.block ≠ b) (u : Value) : ResAt (w.setCell p u) b := by
  obtain ⟨⟨r0, r1, r2, r3, r4, r5⟩, q0, q1, q2, q3, q4, q5⟩ := h
  have c : ∀ o, (w.setCell p u).cell? ⟨b, o, none⟩ = w.cell? ⟨b, o, none⟩ := fun o => World.cell?_setCell_other _ _ _ _ (fun e => hp (by rw [e]))
  have f : ∀ o, (w.setCell p u).frozen? ⟨b, o, none⟩ = w.frozen? ⟨b, o, none⟩ := fun o => World.frozen?_setCell _ _ _ _
  exact ⟨⟨(c 0).trans r0, (c 1).trans r1, (c 2).trans r2, (c 3).trans r3, (c 4).trans r4, (c 5).trans r5⟩, (f 0).trans q0, (f 1).trans q1, (f 2).trans q2, (f 3).trans q3, (f 4).trans q4, (f 5).trans q5⟩
/-- The block of the tag that is being read. -/
def TagAt (w : World) (b i : Nat) (N : List UInt8) (v : Value) : Prop := (w.cell? ⟨b, 0, none⟩ = some (.int .i64 1) ∧ w.cell? ⟨b, 1, none⟩ = some (.string (ofBytes N)) ∧ w.cell? ⟨b, 2, none⟩ = some v ∧ w.cell? ⟨b, 3, none⟩ = some (.bool false) ∧ w.cell? ⟨b, 4, none⟩ = some (.string ⟨#[]⟩) ∧ w.cell? ⟨b, 5, none⟩ = some (.int .i64 (i : Int))) ∧
  w.frozen? ⟨b, 2, none⟩ = false ∧ w.frozen? ⟨b, 3, none⟩ = false
theorem TagAt.below {B : Nat} {w w' : World} {b i : Nat} {N : List UInt8} {v : Value} (h : TagAt w b i N v) (hb : Below B w w') (hlt : b < B) : TagAt w' b i N v := by
  obtain ⟨⟨r0, r1, r2, r3, r4, r5⟩, q2, q3⟩ := h
  have c := fun o => hb.cell (p := ⟨b, o, none⟩) hlt
  have f := fun o => hb.frozen (p := ⟨b, o, none⟩) hlt
  exact ⟨⟨(c 0).trans r0, (c 1).trans r1, (c 2).trans r2, (c 3).trans r3, (c 4).trans r4, (c 5).trans r5⟩, (f 2).trans q2, (f 3).trans q3⟩
theorem TagAt.set2 {w : World} {b i : Nat} {N : List UInt8} {v : Value} (h : TagAt w b i N v) (u : Value) : TagAt (w.setCell ⟨b, 2, none⟩ u) b i N u := by
  obtain ⟨⟨r0, r1, r2, r3, r4, r5⟩, q2, q3⟩ := h
  have c : ∀ o, o ≠ 2 → (w.setCell ⟨b, 2, none⟩ u).cell? ⟨b, o, none⟩ = w.cell? ⟨b, o, none⟩ := fun o ho => World.cell?_setCell_other _ _ _ _ (fun e => ho (by injection e with _ e2; exact e2.symm))
  have f : ∀ o, (w.setCell ⟨b, 2, none⟩ u).frozen? ⟨b, o, none⟩ = w.frozen? ⟨b, o, none⟩ := fun o => World.frozen?_setCell _ _ _ _
  exact ⟨⟨(c 0 (by decide)).trans r0, (c 1 (by decide)).trans r1, World.cell?_setCell_same _ _ _ r2, (c 3 (by decide)).trans r3, (c 4 (by decide)).trans r4, (c 5 (by decide)).trans r5⟩, (f 2).trans q2, (f 3).trans q3⟩
theorem row_six {w : World} {b : Nat} {t : TypeId} {v : Value} {n : Nat} {xs : List Value} (h : w.ownsRow (b + 2) t 4 v n xs) (u0 u1 u2 u3 u4 u5 : Value) : ((((((w.setCell ⟨b, 0, none⟩ u0).setCell ⟨b, 1, none⟩ u1).setCell ⟨b, 2, none⟩ u2).setCell ⟨b, 3, none⟩ u3).setCell ⟨b, 4, none⟩ u4).setCell ⟨b, 5, none⟩ u5).ownsRow b t 4 v n xs :=
  Go.Joins.ownsRow_le (ownsRow_setCell_below (ownsRow_setCell_below (ownsRow_setCell_below (ownsRow_setCell_below (ownsRow_setCell_below (ownsRow_setCell_below h (a := ⟨b, 0, none⟩) (by simp) _) (a := ⟨b, 1, none⟩) (by simp) _) (a := ⟨b, 2, none⟩) (by simp) _) (a := ⟨b, 3, none⟩) (by simp) _) (a := ⟨b, 4, none⟩) (by simp) _) (a := ⟨b, 5, none⟩) (by simp) _) (by omega)
theorem below_six {B : Nat} {w0 w : World} (h : Below B w0 w) (u0 u1 u2 u3 u4 u5 : Value) : Below B w0 ((((((w.setCell ⟨B, 0, none⟩ u0).setCell ⟨B, 1, none⟩ u1).setCell ⟨B, 2, none⟩ u2).setCell ⟨B, 3, none⟩ u3).setCell ⟨B, 4, none⟩ u4).setCell ⟨B, 5, none⟩ u5) :=
  ((((((h.setCell (p := ⟨B, 0, none⟩) (Nat.le_refl _) _).setCell (p := ⟨B, 1, none⟩) (Nat.le_refl _) _).setCell (p := ⟨B, 2, none⟩) (Nat.le_refl _) _).setCell (p := ⟨B, 3, none⟩) (Nat.le_refl _) _).setCell (p := ⟨B, 4, none⟩) (Nat.le_refl _) _).setCell (p := ⟨B, 5, none⟩) (Nat.le_refl _) _)
/-- What start's call gives. -/
def StartIs (w0 : World) (R : StartR) (i : Nat) (e : Ending) (w' : World) : Prop := ∃ v, e = .returned (.tuple #[.agg #[.int .i64 1, .string (ofBytes R.nm), v, .bool R.em, .string ⟨#[]⟩, .int .i64 (i : Int)], .int .i64 R.p1, .int .i64 R.p2]) ∧ w'.ownsRow w0.heap.size 38 4 v R.al.length (attrsCells R.al) ∧ Below w0.heap.size w0 w'

theorem kinfo_attr : (Tryd.prog.info? 38).map (fun i => (i.zero, i.size, i.bytes)) = some (some (.agg #[.string ⟨#[]⟩, .string ⟨#[]⟩, .string ⟨#[]⟩, .int .i64 0]), 4, 56) := by kernel_rfl
theorem attr_one (x : AttrD) : ∀ u ∈ attrCells x, u.oneCell' = true := by
  intro u hu
  simp [attrCells] at hu
  rcases hu with rfl | rfl | rfl | rfl <;> rfl
theorem attr_new (w : World) (t : TypeId) (x : AttrD) : ∀ j u, (attrCells x)[j]? = some u → (w.alloc (.cells #[.string x.sp, .string x.nm, .string x.va, .int .i64 x.at'] t)).cell? ((⟨w.heap.size, 0, none⟩ : Addr).add j) = some u := by
  intro j u hu
  rw [addr_add, World.cell?_alloc_at _ _ _ _ rfl, List.getElem?_toArray]
  exact hu
/-! ### The reference of layer 6: construct: what it returns. -/
/-- A token. -/
structure TokD where
  kind : Int
  nm : List UInt8
  al : List AttrD
  em : Bool
  tx : List UInt8
  at' : Int
def tokZ : TokD := ⟨0, [], [], false, [], 0⟩
def tokT (tx : List UInt8) (a : Int) : TokD := ⟨3, [], [], false, tx, a⟩
def tokVal (t : TokD) (v : Value) : Value := .agg #[.int .i64 t.kind, .string (ofBytes t.nm), v, .bool t.em, .string (ofBytes t.tx), .int .i64 t.at']
/-- Where the character data ends that begins at a place. -/
def dataEnd (s : ByteArray) (i : Nat) : Nat := if nextP s.data.toList i [60] < 0 then s.size else (nextP s.data.toList i [60]).toNat
def cdataP (s : ByteArray) (i : Nat) : TokD × Int × Int :=
  if (skipP s.data.toList i 9 [93, 93, 62]).2 ≠ 0 then (tokZ, (skipP s.data.toList i 9 [93, 93, 62]).1, (skipP s.data.toList i 9 [93, 93, 62]).2)
  else (tokT (linesP ((s.data.toList.drop (i + 9)).take ((skipP s.data.toList i 9 [93, 93, 62]).1.toNat - 3 - (i + 9)))) i, (skipP s.data.toList i 9 [93, 93, 62]).1, 0)
def dataP (s : ByteArray) (i : Nat) : TokD × Int × Int := (tokT (contP s.data.toList i (dataEnd s i) false).1 i, (contP s.data.toList i (dataEnd s i) false).2.1, (contP s.data.toList i (dataEnd s i) false).2.2)
/-- What construct returns. -/
def consP (s : ByteArray) (i : Nat) : TokD × Int × Int :=
  if hasP s.data.toList (i : Int) [60, 63] then (tokT [] 0, (skipP s.data.toList i 2 [63, 62]).1, (skipP s.data.toList i 2 [63, 62]).2)
  else if hasP s.data.toList (i : Int) [60, 33, 45, 45] then (tokT [] 0, (skipP s.data.toList i 4 [45, 45, 62]).1, (skipP s.data.toList i 4 [45, 45, 62]).2)
  else if hasP s.data.toList (i : Int) [60, 33, 91, 67, 68, 65, 84, 65, 91] then cdataP s i
  else if hasP s.data.toList (i : Int) [60, 33, 68, 79, 67, 84, 89, 80, 69] then (tokZ, (i : Int), 11)
  else if hasP s.data.toList (i : Int) [60, 33] then (tokZ, (i : Int), 7)
  else if hasP s.data.toList (i : Int) [60, 47] then (⟨2, (endP s i).1, [], false, [], i⟩, (endP s i).2.1, (endP s i).2.2)
  else if hasP s.data.toList (i : Int) [60] then (⟨1, (startP s i).nm, (startP s i).al, (startP s i).em, [], i⟩, (startP s i).p1, (startP s i).p2)
  else dataP s i
/-- What construct's call gives. -/
def ConsIs (w0 : World) (R : TokD × Int × Int) (e : Ending) (w' : World) : Prop := ∃ v, e = .returned (.tuple #[tokVal R.1 v, .int .i64 R.2.1, .int .i64 R.2.2]) ∧ w'.ownsRow w0.heap.size 38 4 v R.1.al.length (attrsCells R.1.al) ∧ Below w0.heap.size w0 w'
theorem hasP_len {l : List UInt8} {i : Nat} {t : List UInt8} (h : hasP l (i : Int) t = true) (ht : t ≠ []) : i + t.length ≤ l.length := by
  unfold hasP at h
  rw [Bool.and_eq_true, Int.toNat_natCast] at h
  have h2 := (List.isPrefixOf_iff_prefix.1 h.2).length_le
  rw [List.length_drop] at h2
  have : 0 < t.length := List.length_pos_iff.2 ht
  omega

theorem row_six1 {w : World} {b : Nat} {t : TypeId} {v : Value} {n : Nat} {xs : List Value} (h : w.ownsRow (b + 1) t 4 v n xs) (u0 u1 u2 u3 u4 u5 : Value) : ((((((w.setCell ⟨b, 0, none⟩ u0).setCell ⟨b, 1, none⟩ u1).setCell ⟨b, 2, none⟩ u2).setCell ⟨b, 3, none⟩ u3).setCell ⟨b, 4, none⟩ u4).setCell ⟨b, 5, none⟩ u5).ownsRow b t 4 v n xs :=
  Go.Joins.ownsRow_le (ownsRow_setCell_below (ownsRow_setCell_below (ownsRow_setCell_below (ownsRow_setCell_below (ownsRow_setCell_below (ownsRow_setCell_below h (a := ⟨b, 0, none⟩) (by simp) _) (a := ⟨b, 1, none⟩) (by simp) _) (a := ⟨b, 2, none⟩) (by simp) _) (a := ⟨b, 3, none⟩) (by simp) _) (a := ⟨b, 4, none⟩) (by simp) _) (a := ⟨b, 5, none⟩) (by simp) _) (by omega)
theorem dataEnd_bd (s : ByteArray) (i : Nat) (hi : i ≤ s.size) : i ≤ dataEnd s i ∧ dataEnd s i ≤ s.size := by
  have hsl : s.data.toList.length = s.size := by simp
  unfold dataEnd
  have h := nextP_bd s.data.toList i [60]
  rw [hsl] at h
  simp only [List.length_cons, List.length_nil] at h
  split <;> omega
theorem skip_cdata (s : ByteArray) (i : Nat) (h : (skipP s.data.toList i 9 [93, 93, 62]).2 = 0) (hi : i + 9 ≤ s.size) : ∃ n : Nat, (skipP s.data.toList i 9 [93, 93, 62]).1 = (n : Int) ∧ i + 12 ≤ n ∧ n ≤ s.size := by
  have hsl : s.data.toList.length = s.size := by simp
  unfold skipP at h ⊢
  split at h
  · simp at h
  · rename_i h1
    rw [if_neg h1]
    have hb := nextP_bd s.data.toList (i + 9) [93, 93, 62]
    rw [hsl] at hb
    simp only [List.length_cons, List.length_nil] at hb ⊢
    exact ⟨(nextP s.data.toList (i + 9) [93, 93, 62]).toNat + 3, by omega, by omega, by omega⟩

end Go.Proofs.YtpphpnkijokffaaDoor
