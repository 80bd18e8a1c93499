/- Packed from the texts TokJ TokM TokFa TokLa. -/
import Derived.Test.YtppmoeidgefkpaaGreatDoorWChk
import Derived.Test.YtppmoeidgefkpaaGreatDoorWEscC
import Derived.Test.YtppmoeidgefkpaaGreatDoorWTextM
import Derived.Test.YtppmoeidgefkpaaGreatDoorWTokE
import Derived.Lib.SmallJoins
import Derived.BigRegion
import Derived.Lib.OwnKind
import Derived.Lib.Bytes
import Derived.Lib.IndexMore
set_option maxRecDepth 100000
namespace Go.Proofs.YtppmoeidgefkpaaGreatDoor
section
open Go.RowKit
theorem quoAt_bd (l : List UInt8) (x : UInt8) (e : Nat) : e ≤ quoAt l x e ∧ (e ≤ l.length → quoAt l x e ≤ l.length) := by
 unfold quoAt
 have h := (List.takeWhile_prefix (fun c => c != x && c != 60) (l := l.drop e)).length_le
 rw [List.length_drop] at h
 omega
theorem misP_ne (n i : Nat) (k : Int) : (misP n i k).2 ≠ 0 := by
 unfold misP
 split <;> simp
theorem attrP_ok (s : ByteArray) (i a : Nat) (ha : a ≤ s.size) (h : (attrP s i a).2.2 = 0) : ∃ z : Nat, (attrP s i a).2.1 = (z : Int) ∧ a < z ∧ z ≤ s.size := by
 have hsl : s.data.toList.length = s.size := by simp
 have a4 : ∀ N m e c, e ≤ s.size → a ≤ m → m + 1 ≤ e → (attr4 s i N e c).2.2 = 0 → ∃ z : Nat, (attr4 s i N e c).2.1 = (z : Int) ∧ a < z ∧ z ≤ s.size := by
  intro N m e c he hm hme h
  unfold attr4 at h ⊢
  split at h
  ·rename_i h1; exact absurd h h1
  ·rename_i h1
   rw [if_neg h1]
   split at h
   ·exact absurd h (by simp)
   ·rename_i h2
    rw [if_neg h2]
    split at h
    ·exact absurd h (by simp)
    ·rename_i h3
     rw [if_neg h3]
     exact ⟨e + 1, by simp, by omega, by omega⟩
 have a2 : ∀ N m, a ≤ m → m + 1 ≤ s.size → (attr2 s i N m).2.2 = 0 → ∃ z : Nat, (attr2 s i N m).2.1 = (z : Int) ∧ a < z ∧ z ≤ s.size := by
  intro N m hm hms h
  unfold attr2 at h ⊢
  have q := fun x => quoAt_bd s.data.toList x (m + 1)
  split at h
  ·rename_i h1
   rw [if_pos h1]
   exact a4 N m _ _ (by have := (q 34).2 (by omega); omega) hm (q 34).1 h
  ·rename_i h1
   rw [if_neg h1]
   split at h
   ·rename_i h2
    rw [if_pos h2]
    exact a4 N m _ _ (by have := (q 39).2 (by omega); omega) hm (q 39).1 h
   ·exact absurd h (misP_ne _ _ _)
 rw [attrP_def] at h ⊢
 have hb := nmP_le s a ha
 split at h
 ·exact absurd h (misP_ne _ _ _)
 ·rename_i h1
  rw [if_neg h1]
  generalize (s.data.toList.drop a).take (nmP s a - a) = N at *
  generalize nmP s a = n at *
  have hk := spP_le s.data.toList n (by omega)
  rw [hsl] at hk
  generalize spP s.data.toList n = k at *
  unfold attr1 at h ⊢
  split at h
  ·rename_i h2
   rw [if_pos h2]
   obtain ⟨hkl, _⟩ := hasP_one _ _ _ h2
   have hm := spP_le s.data.toList (k + 1) (by omega)
   rw [hsl] at hm
   generalize spP s.data.toList (k + 1) = m at *
   rcases Nat.lt_or_ge m s.size with hms | hms
   ·exact a2 N m (by omega) (by omega) h
   ·exfalso
    have h34 : hasP s.data.toList (m : Int) [34] = false := by
     rw [← Bool.not_eq_true]; intro hh; obtain ⟨hx, _⟩ := hasP_one _ _ _ hh; omega
    have h39 : hasP s.data.toList (m : Int) [39] = false := by
     rw [← Bool.not_eq_true]; intro hh; obtain ⟨hx, _⟩ := hasP_one _ _ _ hh; omega
    unfold attr2 at h
    rw [h34, h39, if_neg (by decide), if_neg (by decide)] at h
    exact absurd h (misP_ne _ _ _)
  ·exact absurd h (misP_ne _ _ _)
def attrCells (x : AttrD) : List Value := [.string x.sp, .string x.nm, .string x.va, .int .i64 x.at']
def aCs (l : List AttrD) : List Value := l.flatMap attrCells
theorem attrsCells_len (l : List AttrD) : (aCs l).length = l.length * 4 := by
 induction l with
 | nil => rfl
 | cons x r ih => rw [aCs, List.flatMap_cons, List.length_append, List.length_cons]; rw [aCs] at ih; rw [ih]; show 4 + _ = _; omega
theorem attrsCells_app (l m : List AttrD) : aCs (l ++ m) = aCs l ++ aCs m := by unfold aCs; rw [List.flatMap_append]
theorem attrsCells_at : ∀ (l : List AttrD) (i : Nat) (h : i < l.length) (k : Nat), k < 4 → (aCs l)[i * 4 + k]? = (attrCells l[i])[k]?
 | [], i, h, _, _ => absurd h (Nat.not_lt_zero _)
 | x :: r, 0, _, k, hk => by
  show (attrCells x ++ aCs r)[0 * 4 + k]? = (attrCells x)[k]?
  rw [List.getElem?_append_left (by show 0 * 4 + k < 4; omega)]
  simp
 | x :: r, i + 1, h, k, hk => by
  show (attrCells x ++ aCs r)[(i + 1) * 4 + k]? = _
  rw [List.getElem?_append_right (by show 4 ≤ (i + 1) * 4 + k; omega)]
  show (aCs r)[(i + 1) * 4 + k - 4]? = _
  rw [show (i + 1) * 4 + k - 4 = i * 4 + k by omega, attrsCells_at r i (by simpa using h) k hk]
  rfl
theorem addr_add2 (g j k : Nat) : ((⟨g, 0, none⟩ : Addr).add j).add k = ⟨g, j + k, none⟩ := by rw [addr_add]; unfold Addr.add; split <;> simp_all
theorem attrs_of_row {w : World} {base : Nat} {t : TypeId} {A : Option Addr} {n c : Nat} {l : List AttrD} (h : w.ownsRow base t 4 (.slice A n c) n (aCs l)) : AttrsAt w A l := by
 intro i hi
 have hc := fun g => h.cells (g := g)
 rcases h.2 with ⟨h0, h1⟩ | ⟨g, cap, cur, hv, _⟩
 ·have := h.1
  rw [attrsCells_len, h1] at this
  omega
 ·injection hv with hA
  subst hA
  have hk : ∀ k v, k < 4 → (attrCells l[i])[k]? = some v → w.cell? (((⟨g, 0, none⟩ : Addr).add (i * 4)).add k) = some v := by
   intro k v hk hv
   rw [addr_add2, ← addr_add]
   exact hc g rfl (i * 4 + k) v (by rw [attrsCells_at l i hi k hk]; exact hv)
  refine ⟨_, rfl, ?_, hk 1 _ (by omega) rfl, hk 2 _ (by omega) rfl, hk 3 _ (by omega) rfl⟩
  have := hk 0 _ (by omega) rfl
  rwa [addr_add2, Nat.add_zero, ← addr_add] at this
theorem row_below {B : Nat} {e : TypeId} {k : Nat} {v : Value} {n : Nat} {xs : List Value} {w w' : World} (h : w.ownsRow B e k v n xs) (hb : Below w.heap.size w w') : w'.ownsRow B e k v n xs := by
 refine ⟨h.1, ?_⟩
 rcases h.2 with h0 | ⟨g, cap, cur, hv, hB, hg, rest⟩
 ·exact .inl h0
 ·have hlt : g < w.heap.size := (Array.getElem?_eq_some_iff.1 hg).1
  exact .inr ⟨g, cap, cur, hv, hB, (hb.block g hlt).trans hg, rest⟩
def attrOf (N V : List UInt8) (a : Nat) : AttrD := ⟨⟨#[]⟩, oB N, oB V, a⟩
structure StartR where
 nm : List UInt8
 al : List AttrD
 em : Bool
 p1 : Int
 p2 : Int
def startGo (s : ByteArray) (i : Nat) (N : List UInt8) : Nat → Nat → List AttrD → StartR
 | 0, _, acc => ⟨N, acc, false, 0, 0⟩
 | f + 1, a, acc =>
  if hasP s.data.toList (spP s.data.toList a : Nat) [62] then ⟨N, acc, false, (spP s.data.toList a : Nat) + 1, 0⟩
  else if hasP s.data.toList (spP s.data.toList a : Nat) [47, 62] then ⟨N, acc, true, (spP s.data.toList a : Nat) + 2, 0⟩
  else if hasP s.data.toList (spP s.data.toList a : Nat) [47] then ⟨N, acc, false, (misP s.size i ((spP s.data.toList a : Nat) + 1)).1, (misP s.size i ((spP s.data.toList a : Nat) + 1)).2⟩
  else if spP s.data.toList a = a then ⟨N, acc, false, (misP s.size i (a : Int)).1, (misP s.size i (a : Int)).2⟩
  else if (attrP s i (spP s.data.toList a)).2.2 ≠ 0 then ⟨N, acc, false, (attrP s i (spP s.data.toList a)).2.1, (attrP s i (spP s.data.toList a)).2.2⟩
  else if ∃ x ∈ acc, x.nm = oB (attrP s i (spP s.data.toList a)).1.1 then ⟨N, acc, false, (spP s.data.toList a : Nat), 10⟩
  else startGo s i N f (attrP s i (spP s.data.toList a)).2.1.toNat (acc ++ [attrOf (attrP s i (spP s.data.toList a)).1.1 (attrP s i (spP s.data.toList a)).1.2 (spP s.data.toList a)])
def startP (s : ByteArray) (i : Nat) : StartR :=
 if nmP s (i + 1) = i + 1 then ⟨[], [], false, (misP s.size i ((i + 1 : Nat) : Int)).1, (misP s.size i ((i + 1 : Nat) : Int)).2⟩
 else startGo s i ((s.data.toList.drop (i + 1)).take (nmP s (i + 1) - (i + 1))) (s.size + 1) (nmP s (i + 1)) []
def ResAt (w : World) (b : Nat) : Prop := (w.cell? ⟨b, 0, none⟩ = some (.int .i64 0) ∧ w.cell? ⟨b, 1, none⟩ = some (.string ⟨#[]⟩) ∧ w.cell? ⟨b, 2, none⟩ = some (.slice none 0 0) ∧ w.cell? ⟨b, 3, none⟩ = some (.bool false) ∧ w.cell? ⟨b, 4, none⟩ = some (.string ⟨#[]⟩) ∧ w.cell? ⟨b, 5, none⟩ = some (.int .i64 0)) ∧
 w.frozen? ⟨b, 0, none⟩ = false ∧ w.frozen? ⟨b, 1, none⟩ = false ∧ w.frozen? ⟨b, 2, none⟩ = false ∧ w.frozen? ⟨b, 3, none⟩ = false ∧ w.frozen? ⟨b, 4, none⟩ = false ∧ w.frozen? ⟨b, 5, none⟩ = false
theorem ResAt.below {B : Nat} {w w' : World} {b : Nat} (h : ResAt w b) (hb : Below B w w') (hlt : b < B) : ResAt w' b := by
 obtain ⟨⟨r0, r1, r2, r3, r4, r5⟩, q0, q1, q2, q3, q4, q5⟩ := h
 have c := fun o => hb.cell (p := ⟨b, o, none⟩) hlt
 have f := fun o => hb.frozen (p := ⟨b, o, none⟩) hlt
 exact ⟨⟨(c 0).trans r0, (c 1).trans r1, (c 2).trans r2, (c 3).trans r3, (c 4).trans r4, (c 5).trans r5⟩, (f 0).trans q0, (f 1).trans q1, (f 2).trans q2, (f 3).trans q3, (f 4).trans q4, (f 5).trans q5⟩
theorem ResAt.set {w : World} {b : Nat} (h : ResAt w b) {p : Addr} (hp : p.block ≠ b) (u : Value) : ResAt (w.setCell p u) b := by
 obtain ⟨⟨r0, r1, r2, r3, r4, r5⟩, q0, q1, q2, q3, q4, q5⟩ := h
 have c : ∀ o, (w.setCell p u).cell? ⟨b, o, none⟩ = w.cell? ⟨b, o, none⟩ := fun o => World.cell?_setCell_other _ _ _ _ (fun e => hp (by rw [e]))
 have f : ∀ o, (w.setCell p u).frozen? ⟨b, o, none⟩ = w.frozen? ⟨b, o, none⟩ := fun o => World.frozen?_setCell _ _ _ _
 exact ⟨⟨(c 0).trans r0, (c 1).trans r1, (c 2).trans r2, (c 3).trans r3, (c 4).trans r4, (c 5).trans r5⟩, (f 0).trans q0, (f 1).trans q1, (f 2).trans q2, (f 3).trans q3, (f 4).trans q4, (f 5).trans q5⟩
def TagAt (w : World) (b i : Nat) (N : List UInt8) (v : Value) : Prop := (w.cell? ⟨b, 0, none⟩ = some (.int .i64 1) ∧ w.cell? ⟨b, 1, none⟩ = some (.string (oB N)) ∧ w.cell? ⟨b, 2, none⟩ = some v ∧ w.cell? ⟨b, 3, none⟩ = some (.bool false) ∧ w.cell? ⟨b, 4, none⟩ = some (.string ⟨#[]⟩) ∧ w.cell? ⟨b, 5, none⟩ = some (.int .i64 (i : Int))) ∧
 w.frozen? ⟨b, 2, none⟩ = false ∧ w.frozen? ⟨b, 3, none⟩ = false
theorem TagAt.below {B : Nat} {w w' : World} {b i : Nat} {N : List UInt8} {v : Value} (h : TagAt w b i N v) (hb : Below B w w') (hlt : b < B) : TagAt w' b i N v := by
 obtain ⟨⟨r0, r1, r2, r3, r4, r5⟩, q2, q3⟩ := h
 have c := fun o => hb.cell (p := ⟨b, o, none⟩) hlt
 have f := fun o => hb.frozen (p := ⟨b, o, none⟩) hlt
 exact ⟨⟨(c 0).trans r0, (c 1).trans r1, (c 2).trans r2, (c 3).trans r3, (c 4).trans r4, (c 5).trans r5⟩, (f 2).trans q2, (f 3).trans q3⟩
theorem TagAt.set2 {w : World} {b i : Nat} {N : List UInt8} {v : Value} (h : TagAt w b i N v) (u : Value) : TagAt (w.setCell ⟨b, 2, none⟩ u) b i N u := by
 obtain ⟨⟨r0, r1, r2, r3, r4, r5⟩, q2, q3⟩ := h
 have c : ∀ o, o ≠ 2 → (w.setCell ⟨b, 2, none⟩ u).cell? ⟨b, o, none⟩ = w.cell? ⟨b, o, none⟩ := fun o ho => World.cell?_setCell_other _ _ _ _ (fun e => ho (by injection e with _ e2; exact e2.symm))
 have f : ∀ o, (w.setCell ⟨b, 2, none⟩ u).frozen? ⟨b, o, none⟩ = w.frozen? ⟨b, o, none⟩ := fun o => World.frozen?_setCell _ _ _ _
 exact ⟨⟨(c 0 (by decide)).trans r0, (c 1 (by decide)).trans r1, World.cell?_setCell_same _ _ _ r2, (c 3 (by decide)).trans r3, (c 4 (by decide)).trans r4, (c 5 (by decide)).trans r5⟩, (f 2).trans q2, (f 3).trans q3⟩
theorem row_six {w : World} {b : Nat} {t : TypeId} {v : Value} {n : Nat} {xs : List Value} (h : w.ownsRow (b + 2) t 4 v n xs) (u0 u1 u2 u3 u4 u5 : Value) : ((((((w.setCell ⟨b, 0, none⟩ u0).setCell ⟨b, 1, none⟩ u1).setCell ⟨b, 2, none⟩ u2).setCell ⟨b, 3, none⟩ u3).setCell ⟨b, 4, none⟩ u4).setCell ⟨b, 5, none⟩ u5).ownsRow b t 4 v n xs :=
 Go.Joins.ownsRow_le (ownsRow_setCell_below (ownsRow_setCell_below (ownsRow_setCell_below (ownsRow_setCell_below (ownsRow_setCell_below (ownsRow_setCell_below h (a := ⟨b, 0, none⟩) (by simp) _) (a := ⟨b, 1, none⟩) (by simp) _) (a := ⟨b, 2, none⟩) (by simp) _) (a := ⟨b, 3, none⟩) (by simp) _) (a := ⟨b, 4, none⟩) (by simp) _) (a := ⟨b, 5, none⟩) (by simp) _) (by omega)
theorem below_six {B : Nat} {w0 w : World} (h : Below B w0 w) (u0 u1 u2 u3 u4 u5 : Value) : Below B w0 ((((((w.setCell ⟨B, 0, none⟩ u0).setCell ⟨B, 1, none⟩ u1).setCell ⟨B, 2, none⟩ u2).setCell ⟨B, 3, none⟩ u3).setCell ⟨B, 4, none⟩ u4).setCell ⟨B, 5, none⟩ u5) :=
 ((((((h.setCell (p := ⟨B, 0, none⟩) (Nat.le_refl _) _).setCell (p := ⟨B, 1, none⟩) (Nat.le_refl _) _).setCell (p := ⟨B, 2, none⟩) (Nat.le_refl _) _).setCell (p := ⟨B, 3, none⟩) (Nat.le_refl _) _).setCell (p := ⟨B, 4, none⟩) (Nat.le_refl _) _).setCell (p := ⟨B, 5, none⟩) (Nat.le_refl _) _)
def StartIs (w0 : World) (R : StartR) (i : Nat) (e : Ending) (w' : World) : Prop := ∃ v, e = .returned (.tuple #[.agg #[.int .i64 1, .string (oB R.nm), v, .bool R.em, .string ⟨#[]⟩, .int .i64 (i : Int)], .int .i64 R.p1, .int .i64 R.p2]) ∧ w'.ownsRow w0.heap.size 56 4 v R.al.length (aCs R.al) ∧ Below w0.heap.size w0 w'
theorem kinfo_attr : (Tryz.prog.info? 56).map (fun i => (i.zero, i.size, i.bytes)) = some (some (.agg #[.string ⟨#[]⟩, .string ⟨#[]⟩, .string ⟨#[]⟩, .int .i64 0]), 4, 56) := by kernel_rfl
theorem attr_one (x : AttrD) : ∀ u ∈ attrCells x, u.oneCell' = true := by
 intro u hu
 simp [attrCells] at hu
 rcases hu with rfl | rfl | rfl | rfl <;> rfl
theorem attr_new (w : World) (t : TypeId) (x : AttrD) : ∀ j u, (attrCells x)[j]? = some u → (w.alloc (.cells #[.string x.sp, .string x.nm, .string x.va, .int .i64 x.at'] t)).cell? ((⟨w.heap.size, 0, none⟩ : Addr).add j) = some u := by
 intro j u hu
 rw [addr_add, World.cell?_alloc_at _ _ _ _ rfl, List.getElem?_toArray]
 exact hu
set_option maxHeartbeats 8000000 in
theorem tref_start (s : ByteArray) (i : Nat) (w : World) (hs : s.size ≤ 1000000) (hi : i + 1 ≤ s.size) :
  Calls Tryz.prog 76 #[.string s, .int .i64 i] w fun e w' => StartIs w (startP s i) i e w' := by
 obtain ⟨i0, hi0, hi1, hi3, hi4⟩ := info_parts kinfo_attr
 have hsl : s.data.toList.length = s.size := by simp
 have HSL := Lib.hid hsl
 have c1 : ∀ wx, _ := fun wx => tref_name s (i + 1) wx hs (by omega)
 rw [show ((i + 1 : Nat) : Int) = (i : Int) + 1 by omega] at c1
 have hb := nmP_le s (i + 1) hi
 have hE : startP s i = if nmP s (i + 1) = i + 1 then ⟨[], [], false, (misP s.size i ((i + 1 : Nat) : Int)).1, (misP s.size i ((i + 1 : Nat) : Int)).2⟩
  else startGo s i ((s.data.toList.drop (i + 1)).take (nmP s (i + 1) - (i + 1))) (s.size + 1) (nmP s (i + 1)) [] := rfl
 generalize startP s i = SP at *
 generalize nmP s (i + 1) = n at *
 obtain ⟨hb1, hb2⟩ := hb
 have hi2 : (i : Int) ≤ 1000000 := by omega
 have hn2 : (n : Int) ≤ 1000000 := by omega
 have hsc : ∀ wx, _ := fun wx => slice_mid s ((i : Int) + 1) (n : Int) (by omega) (by omega) (by omega) wx
 rw [show ((i : Int) + 1).toNat = i + 1 by omega, Int.toNat_natCast, kext] at hsc
 generalize (s.data.toList.drop (i + 1)).take (n - (i + 1)) = N at *
 clear hsl
 go_enter Tryz.func76, Tryz.ntmps76
 go_wp2_with fail
 refine (c1 _).mono ?_
 rintro e w1 ⟨rfl, b1⟩
 have cc : ∀ (o : Nat) (u : Value), (#[Value.int .i64 1, .string ⟨#[]⟩, .slice none 0 0, .bool false, .string ⟨#[]⟩, .int .i64 (i : Int)] : Array Value)[o]? = some u → w1.cell? ⟨w.heap.size + 1, o, none⟩ = some u ∧ w1.frozen? ⟨w.heap.size + 1, o, none⟩ = false := by
  intro o u hu
  refine ⟨(b1.cell (p := ⟨w.heap.size + 1, o, none⟩) (by simp)).trans ?_, (b1.frozen (p := ⟨w.heap.size + 1, o, none⟩) (by simp)).trans ?_⟩
  ·rw [World.cell?_alloc_at _ _ _ _ (by simp)]; exact hu
  ·rw [World.frozen?_alloc_at _ _ _ _ (by simp)]
 have rr : ∀ (o : Nat) (u : Value), (#[Value.int .i64 0, .string ⟨#[]⟩, .slice none 0 0, .bool false, .string ⟨#[]⟩, .int .i64 0] : Array Value)[o]? = some u → w1.cell? ⟨w.heap.size, o, none⟩ = some u ∧ w1.frozen? ⟨w.heap.size, o, none⟩ = false := by
  intro o u hu
  refine ⟨(b1.cell (p := ⟨w.heap.size, o, none⟩) (by simp; omega)).trans ?_, (b1.frozen (p := ⟨w.heap.size, o, none⟩) (by simp; omega)).trans ?_⟩
  ·rw [World.cell?_alloc_past _ _ _ (by simp), World.cell?_alloc_at _ _ _ _ rfl]; exact hu
  ·rw [World.frozen?_alloc_past _ _ _ (by simp), World.frozen?_alloc_at _ _ _ _ rfl]
 obtain ⟨d0, p0⟩ := cc 0 _ rfl
 obtain ⟨d1, p1⟩ := cc 1 _ rfl
 obtain ⟨d2, p2⟩ := cc 2 _ rfl
 obtain ⟨d3, p3⟩ := cc 3 _ rfl
 obtain ⟨d4, p4⟩ := cc 4 _ rfl
 obtain ⟨d5, p5⟩ := cc 5 _ rfl
 obtain ⟨r0, q0⟩ := rr 0 _ rfl
 obtain ⟨r1, q1⟩ := rr 1 _ rfl
 obtain ⟨r2, q2⟩ := rr 2 _ rfl
 obtain ⟨r3, q3⟩ := rr 3 _ rfl
 obtain ⟨r4, q4⟩ := rr 4 _ rfl
 obtain ⟨r5, q5⟩ := rr 5 _ rfl
 clear rr cc
 simp only [List.getElem_toArray, List.getElem_cons_zero, List.getElem_cons_succ] at d0 d1 d2 d3 d4 d5 r0 r1 r2 r3 r4 r5
 have hbw : Below w.heap.size w w1 := ((((Below.refl _ _).alloc (Nat.le_refl _) _).alloc (by simp) _)).trans (b1.mono (by simp; omega))
 have hsz1 := b1.size
 have HSZ := Lib.hid (show w.heap.size + 2 ≤ w1.heap.size by simpa using hsz1)
 clear hsz1 b1 c1
 by_cases hn : n = i + 1
 ·rw [if_pos hn] at hE
  have hm : ∀ wx, _ := fun wx => tref_missing s i (n : Int) wx
  rw [hn] at hm
  generalize misP s.size i ((i + 1 : Nat) : Int) = mm at *
  obtain ⟨m1, m2⟩ := mm
  simp only at hm hE
  subst hn
  rw [show ((i + 1 : Nat) : Int) = (i : Int) + 1 by omega] at hm
  subst hE
  have HB := Lib.hid hbw
  clear hbw hsc
  (go_wp2_with fail); (refine (hm _).mono ?_); (rintro e w' ⟨rfl, rfl⟩)
  go_wp2
  exact bodyPost_ret (v := .tuple #[.agg #[.int .i64 1, .string ⟨#[]⟩, .slice none 0 0, .bool false, .string ⟨#[]⟩, .int .i64 i], .int .i64 m1, .int .i64 m2]) (by simp [results, Tryz.results76, go_sem, cSs, r0, r1, r2, r3, r4, r5]) rfl ⟨_, rfl, row_six (World.ownsRow_nil _ _ _ _) _ _ _ _ _ _, below_six HB.out _ _ _ _ _ _⟩
 ·rw [if_neg hn] at hE
  have hlt : (i : Int) + 1 < (n : Int) := by omega
  have hnb : ((n : Int) == (i : Int) + 1) = false := by simp; omega
  have hbw2 : Below w.heap.size w (w1.setCell ⟨w.heap.size + 1, 1, none⟩ (.string (oB N))) := hbw.setCell (p := ⟨w.heap.size + 1, 1, none⟩) (by simp) _
  have hsz2 : w.heap.size + 2 ≤ (w1.setCell ⟨w.heap.size + 1, 1, none⟩ (.string (oB N))).heap.size := by simpa using HSZ.out
  have hres : ResAt (w1.setCell ⟨w.heap.size + 1, 1, none⟩ (.string (oB N))) w.heap.size := ResAt.set ⟨⟨r0, r1, r2, r3, r4, r5⟩, q0, q1, q2, q3, q4, q5⟩ (by simp) _
  have htag : TagAt (w1.setCell ⟨w.heap.size + 1, 1, none⟩ (.string (oB N))) (w.heap.size + 1) i N (.slice none 0 0) := by
   have c : ∀ o, o ≠ 1 → (w1.setCell ⟨w.heap.size + 1, 1, none⟩ (.string (oB N))).cell? ⟨w.heap.size + 1, o, none⟩ = w1.cell? ⟨w.heap.size + 1, o, none⟩ := fun o ho => World.cell?_setCell_other _ _ _ _ (fun e => ho (by injection e with _ e2; exact e2.symm))
   have f : ∀ o, (w1.setCell ⟨w.heap.size + 1, 1, none⟩ (.string (oB N))).frozen? ⟨w.heap.size + 1, o, none⟩ = w1.frozen? ⟨w.heap.size + 1, o, none⟩ := fun o => World.frozen?_setCell _ _ _ _
   exact ⟨⟨(c 0 (by decide)).trans d0, World.cell?_setCell_same _ _ _ d1, (c 2 (by decide)).trans d2, (c 3 (by decide)).trans d3, (c 4 (by decide)).trans d4, (c 5 (by decide)).trans d5⟩, (f 2).trans p2, (f 3).trans p3⟩
  have HE0 := Lib.hid hE
  have HR := Lib.hid hres
  have HT := Lib.hid htag
  have HB := Lib.hid hbw2
  have HZ := Lib.hid hsz2
  clear hE hres htag hbw2 hsz2 hbw r0 r1 r2 r3 r4 r5 q0 q1 q2 q3 q4 q5
  go_wp2
  go_loopw [8] (fun q wr => ∃ (k f : Nat) (acc : List AttrD) (A : Option Addr) (c : Nat), q = .int .i64 k ∧ i < k ∧ k ≤ s.size ∧ SP = startGo s i N f k acc ∧ s.size - k < f ∧ TagAt wr (w.heap.size + 1) i N (.slice A acc.length c) ∧ ResAt wr w.heap.size ∧ wr.ownsRow (w.heap.size + 2) 56 4 (.slice A acc.length c) acc.length (aCs acc) ∧ Below w.heap.size w wr ∧ w.heap.size + 2 ≤ wr.heap.size ∧ acc.length ≤ k) (fun q _ => s.size - (intOf q).toNat)
  case atStart => exact ⟨n, s.size + 1, [], none, 0, rfl, by omega, hb2, HE0.out, by omega, HT.out, HR.out, World.ownsRow_nil _ _ _ _, HB.out, HZ.out, Nat.zero_le _⟩
  case round =>
   clear d0 d1 d2 d3 d4 d5 p0 p1 p2 p3 p4 p5 HSZ HE0 HR HT HB HZ hsc hn hlt hn2
   obtain ⟨k, f, acc, A, c, rfl, hik, hk, hst, hf, htag, hres, hown, hbel, hz2, hal⟩ := hrel
   obtain ⟨f, rfl⟩ : ∃ g, f = g + 1 := ⟨f - 1, by omega⟩
   rw [startGo] at hst
   have c2 : ∀ wx, _ := fun wx => tref_spaces s k wx hs (by omega)
   have hkm := spP_le s.data.toList k (by rw [HSL.out]; exact hk)
   rw [HSL.out] at hkm
   generalize spP s.data.toList k = m at *
   obtain ⟨hkm1, hkm2⟩ := hkm
   have hk3 : (k : Int) ≤ 1000000 := by omega
   have hm3 : (m : Int) ≤ 1000000 := by omega
   have cH1 : ∀ wx, _ := fun wx => tref_Has s ⟨#[62]⟩ (m : Int) wx hs (by decide) (by decide) (by omega)
   have cH2 : ∀ wx, _ := fun wx => tref_Has s ⟨#[47, 62]⟩ (m : Int) wx hs (by decide) (by decide) (by omega)
   have cH3 : ∀ wx, _ := fun wx => tref_Has s ⟨#[47]⟩ (m : Int) wx hs (by decide) (by decide) (by omega)
   rw [show (⟨#[62]⟩ : ByteArray).data.toList = [62] from rfl] at cH1
   rw [show (⟨#[47, 62]⟩ : ByteArray).data.toList = [47, 62] from rfl] at cH2
   rw [show (⟨#[47]⟩ : ByteArray).data.toList = [47] from rfl] at cH3
   obtain ⟨⟨d0, d1, d2, d3, d4, d5⟩, p2, p3⟩ := id htag
   obtain ⟨⟨r0, r1, r2, r3, r4, r5⟩, q0, q1, q2, q3, q4, q5⟩ := id hres
   have HT := Lib.hid htag
   have HR := Lib.hid hres
   have HO := Lib.hid hown
   have HB := Lib.hid hbel
   clear htag hres hown hbel
   rcases h1 : hasP s.data.toList (m : Int) [62] with _ | _
   ·rw [h1] at hst cH1
    rw [if_neg (by decide)] at hst
    rcases h2 : hasP s.data.toList (m : Int) [47, 62] with _ | _
    ·rw [h2] at hst cH2
     rw [if_neg (by decide)] at hst
     rcases h3 : hasP s.data.toList (m : Int) [47] with _ | _
     ·rw [h3] at hst cH3
      rw [if_neg (by decide)] at hst
      by_cases hmk : m = k
      ·rw [if_pos hmk] at hst
       have hm : ∀ wx, _ := fun wx => tref_missing s i (k : Int) wx
       generalize misP s.size i (k : Int) = mm at *
       obtain ⟨m1, m2⟩ := mm
       simp only at hm hst
       subst hst
       subst hmk
       clear h1 h2 h3
       (go_wp2_with fail); (refine (c2 _).mono ?_); (rintro e w' ⟨rfl, rfl⟩)
       (go_wp2_with fail); (refine (cH1 _).mono ?_); (rintro e w' ⟨rfl, rfl⟩)
       (go_wp2_with fail); (refine (cH2 _).mono ?_); (rintro e w' ⟨rfl, rfl⟩)
       (go_wp2_with fail); (refine (cH3 _).mono ?_); (rintro e w' ⟨rfl, rfl⟩)
       (go_wp2_with fail); (refine (hm _).mono ?_); (rintro e w' ⟨rfl, rfl⟩)
       go_wp2
       exact bodyPost_ret (v := .tuple #[.agg #[.int .i64 1, .string (oB N), .slice A acc.length c, .bool false, .string ⟨#[]⟩, .int .i64 i], .int .i64 m1, .int .i64 m2]) (by simp [results, Tryz.results76, go_sem, cSs, r0, r1, r2, r3, r4, r5]) rfl ⟨_, rfl, row_six HO.out _ _ _ _ _ _, below_six HB.out _ _ _ _ _ _⟩
      ·rw [if_neg hmk] at hst
       have cA : ∀ wx, _ := fun wx => tref_attr s i m wx hs (by omega) hkm2
       have hok := attrP_ok s i m hkm2
       generalize attrP s i m = rr at *
       obtain ⟨⟨an, av⟩, x1, x2⟩ := rr
       simp only [attrV] at cA hok hst
       have hmk2 : ((m : Int) == (k : Int)) = false := by simp; omega
       by_cases hx : x2 = 0
       ·rw [if_neg (by simpa using hx)] at hst
        obtain ⟨z, rfl, hz1, hz3⟩ := hok hx
        subst hx
        clear h1 h2 h3 hok hmk d0 d1 d2 d3 d4 d5 r0 r1 r2 r3 r4 r5 p2 p3 q0 q1 q2 q3 q4 q5
        (go_wp2_with fail); (refine (c2 _).mono ?_); (rintro e w' ⟨rfl, rfl⟩)
        (go_wp2_with fail); (refine (cH1 _).mono ?_); (rintro e w' ⟨rfl, rfl⟩)
        (go_wp2_with fail); (refine (cH2 _).mono ?_); (rintro e w' ⟨rfl, rfl⟩)
        (go_wp2_with fail); (refine (cH3 _).mono ?_); (rintro e w' ⟨rfl, rfl⟩)
        go_wp2_with fail
        refine (cA _).mono ?_
        rintro e w2 ⟨rfl, b2⟩
        have b3 : Below wr.heap.size wr (w2.alloc (.cells #[.string ⟨#[]⟩, .string (oB an), .string (oB av), .int .i64 (m : Int)] 56)) := b2.alloc b2.size _
        have HT2 := Lib.hid (HT.out.below b3 (by omega))
        have HR2 := Lib.hid (HR.out.below b3 (by omega))
        have HO2 := Lib.hid (row_below HO.out b3)
        have HB2 := Lib.hid (HB.out.trans (b3.mono HB.out.size))
        have hz4 : w.heap.size + 2 ≤ w2.heap.size := Nat.le_trans hz2 b2.size
        have aa : ∀ (o : Nat) (u : Value), (#[.string ⟨#[]⟩, .string (oB an), .string (oB av), .int .i64 (m : Int)] : Array Value)[o]? = some u → (w2.alloc (.cells #[.string ⟨#[]⟩, .string (oB an), .string (oB av), .int .i64 (m : Int)] 56)).cell? ⟨w2.heap.size, o, none⟩ = some u := by
         intro o u hu
         rw [World.cell?_alloc_at _ _ _ _ rfl]; exact hu
        have AA := Lib.hid aa
        have hz5 : w2.heap.size < (w2.alloc (.cells #[.string ⟨#[]⟩, .string (oB an), .string (oB av), .int .i64 (m : Int)] 56)).heap.size := by simp
        clear HT HR HO HB b2 b3 aa
        go_wp2
        generalize w2.alloc (.cells #[.string ⟨#[]⟩, .string (oB an), .string (oB av), .int .i64 (m : Int)] 56) = w3 at *
        generalize w2.heap.size = ba at *
        go_loopw [19] (fun q wx => ∃ j : Nat, j ≤ acc.length ∧ q = .int .i64 j ∧ (∀ x ∈ acc.take j, x.nm ≠ oB an) ∧ Below w3.heap.size w3 wx) (fun q _ => acc.length - (intOf q).toNat)
        case atStart => exact ⟨0, Nat.zero_le _, rfl, by simp, Below.refl _ _⟩
        case round =>
         obtain ⟨j, hj, rfl, hno, hwx⟩ := hrel
         have a0 := (hwx.cell (p := ⟨ba, 0, none⟩) hz5).trans (AA.out 0 _ rfl)
         have a1 := (hwx.cell (p := ⟨ba, 1, none⟩) hz5).trans (AA.out 1 _ rfl)
         have a2 := (hwx.cell (p := ⟨ba, 2, none⟩) hz5).trans (AA.out 2 _ rfl)
         have a3 := (hwx.cell (p := ⟨ba, 3, none⟩) hz5).trans (AA.out 3 _ rfl)
         simp only [List.getElem_toArray, List.getElem_cons_zero, List.getElem_cons_succ] at a0 a1 a2 a3
         have HT3 := Lib.hid (HT2.out.below hwx (by omega))
         have HR3 := Lib.hid (HR2.out.below hwx (by omega))
         have HO3 := Lib.hid (row_below HO2.out hwx)
         have HB3 := Lib.hid (HB2.out.trans (hwx.mono HB2.out.size))
         obtain ⟨⟨d0, d1, d2, d3, d4, d5⟩, p2, p3⟩ := HT3.out
         by_cases hlt : j < acc.length
         ·have hjz : (j : Int) < (acc.length : Int) := by omega
          obtain ⟨ad, rfl, e0, e1, e2, e3⟩ := (attrs_of_row HO3.out) j hlt
          obtain ⟨y, hy⟩ : ∃ y, acc[j] = y := ⟨_, rfl⟩
          rw [hy] at e0 e1 e2 e3
          obtain ⟨cc, hcc⟩ : ∃ cc, ad.add (j * 4) = cc := ⟨_, rfl⟩
          rw [hcc] at e0 e1 e2 e3
          simp only [Addr.add, Nat.reduceEqDiff, ↓reduceIte] at e1 e2 e3
          have hq : (y.nm.toList == (oB an).toList) = decide (y.nm = oB an) := by
           rw [Bool.eq_iff_iff, beq_iff_eq, decide_eq_true_eq]
           exact ⟨fun h => kstr_ext (by rwa [ByteArray.toList_eq, ByteArray.toList_eq] at h), fun h => by rw [h]⟩
          have hyin : y ∈ acc := by rw [← hy]; exact List.getElem_mem _
          by_cases hyn : y.nm = oB an
          ·rw [decide_eq_true hyn] at hq
           rw [if_pos ⟨y, hyin, hyn⟩] at hst
           obtain ⟨⟨r0, r1, r2, r3, r4, r5⟩, q0, q1, q2, q3, q4, q5⟩ := HR3.out
           clear hyn hyin hno hwx e0 e2 e3 HT2 HR2 HO2 HB2 AA
           subst hst
           generalize y.nm = yn at *
           generalize oB an = AN at *
           go_wp2_with fail
           go_quiet (fail)
           go_wp2
           go_region
           go_wp2
           exact bodyPost_ret (v := .tuple #[.agg #[.int .i64 1, .string (oB N), .slice (some ad) acc.length c, .bool false, .string ⟨#[]⟩, .int .i64 i], .int .i64 m, .int .i64 10]) (by simp [results, Tryz.results76, go_sem, cSs, r0, r1, r2, r3, r4, r5]) rfl ⟨_, rfl, row_six (row_below HO3.out (below_drewN (Below.refl _ _) _)) _ _ _ _ _ _, below_six (below_drewN HB3.out _) _ _ _ _ _ _⟩
          ·rw [decide_eq_false hyn] at hq
           have hno2 : ∀ x ∈ acc.take (j + 1), x.nm ≠ oB an := by
            intro x hx
            rw [List.take_add_one, List.getElem?_eq_getElem hlt, hy] at hx
            rcases List.mem_append.1 hx with h | h
            ·exact hno x h
            ·obtain rfl : x = y := by simpa using h
             exact hyn
           have HN := Lib.hid hno2
           have HW := Lib.hid hwx
           clear hyn hyin hno hwx e0 e2 e3 HT2 HR2 HO2 HB2 AA hno2 hst
           generalize y.nm = yn at *
           generalize hAN : oB an = AN at *
           go_wp2_with fail
           go_quiet (fail)
           go_wp2
           go_roundw
           case rel => exact ⟨j + 1, by omega, by go_num, HN.out, below_drewN HW.out _⟩
           case measure => simp [intOf]; omega
         ·obtain rfl : j = acc.length := by omega
          rw [List.take_of_length_le (Nat.le_refl _)] at hno
          rw [if_neg (by rintro ⟨x, hx, hxn⟩; exact hno x hx hxn)] at hst
          rw [Int.toNat_natCast] at hst
          have hown3 := HO3.out
          have hzx : w.heap.size + 2 ≤ wr.heap.size := Nat.le_trans (by omega) hwx.size
          have HST := Lib.hid hst
          clear hno hwx HT2 HR2 HO2 HB2 AA hst HO3
          go_wp2_with (at_builtin; refine wpList_append_own _ rfl (.tmp 126) (.tmp 128) 22 rfl (w.heap.size + 2) 56 i0 (.agg #[.string ⟨#[]⟩, .string ⟨#[]⟩, .string ⟨#[]⟩, .int .i64 0]) 4 56 Tryz.underlying22 hi0 hi1 hi3 hi4 rfl (by decide) (.slice A acc.length c) acc.length (aCs acc) rfl (hown3.alloc _) ⟨wr.heap.size, 0, none⟩ 1 1 (attrCells (attrOf an av m)) rfl rfl (attr_new _ _ _) (attr_one _) (by unfold maxLen; omega) (by omega) (by simp; omega) ?_; intro v' w4 hown' hgr' _; obtain ⟨A', c', rfl⟩ := own_form hown'; have hb4 : Below (w.heap.size + 2) wr w4 := ((Below.refl _ _).alloc hzx _).grown hgr' (by simp; omega) (fun g hg => (hown3.lt g hg).1); have HT4 := HT3.out.below hb4 (by omega); have HR4 := HR3.out.below hb4 (by omega); have t2 := HT4.1.2.2.1; have s2 := HT4.2.1; have HT5 := Lib.hid HT4; have HR5 := Lib.hid HR4; have HB4 := Lib.hid hb4; clear HT4 HR4 hb4 hgr')
          have hz6 : w.heap.size + 2 ≤ w4.heap.size := Nat.le_trans hzx HB4.out.size
          have hb5 : Below w.heap.size w w4 := HB3.out.trans (HB4.out.mono (by omega))
          have hown5 : w4.ownsRow (w.heap.size + 2) 56 4 (.slice A' (acc ++ [attrOf an av m]).length c') (acc ++ [attrOf an av m]).length (aCs (acc ++ [attrOf an av m])) := by
           rw [attrsCells_app, List.length_append]
           exact hown'
          have hT6 : TagAt (w4.setCell ⟨w.heap.size + 1, 2, none⟩ (.slice A' (acc.length + 1) c')) (w.heap.size + 1) i N (.slice A' (acc ++ [attrOf an av m]).length c') := by
           rw [List.length_append]
           exact HT5.out.set2 _
          go_wp2
          go_roundw
          case rel => exact ⟨z, f, acc ++ [attrOf an av m], A', c', by go_num, by omega, hz3, HST.out, by omega, hT6, HR5.out.set (by simp) _, ownsRow_setCell_below hown5 (a := ⟨w.heap.size + 1, 2, none⟩) (by simp) _, hb5.setCell (p := ⟨w.heap.size + 1, 2, none⟩) (by simp) _, by simpa using hz6, by rw [List.length_append, List.length_singleton]; omega⟩
          case measure => simp [intOf]; omega
       ·rw [if_pos hx] at hst
        have hxb : (x2 != 0) = true := by simpa using hx
        subst hst
        clear h1 h2 h3 hok hx d0 d1 d2 d3 d4 d5 r0 r1 r2 r3 r4 r5 p2 p3 q0 q1 q2 q3 q4 q5 hmk
        (go_wp2_with fail); (refine (c2 _).mono ?_); (rintro e w' ⟨rfl, rfl⟩)
        (go_wp2_with fail); (refine (cH1 _).mono ?_); (rintro e w' ⟨rfl, rfl⟩)
        (go_wp2_with fail); (refine (cH2 _).mono ?_); (rintro e w' ⟨rfl, rfl⟩)
        (go_wp2_with fail); (refine (cH3 _).mono ?_); (rintro e w' ⟨rfl, rfl⟩)
        go_wp2_with fail
        refine (cA _).mono ?_
        rintro e w2 ⟨rfl, b2⟩
        have b3 : Below wr.heap.size wr (w2.alloc (.cells #[.string ⟨#[]⟩, .string (oB an), .string (oB av), .int .i64 (m : Int)] 56)) := b2.alloc b2.size _
        obtain ⟨⟨d0, d1, d2, d3, d4, d5⟩, p2, p3⟩ := HT.out.below b3 (by omega)
        obtain ⟨⟨r0, r1, r2, r3, r4, r5⟩, q0, q1, q2, q3, q4, q5⟩ := HR.out.below b3 (by omega)
        have HO2 := Lib.hid (row_below HO.out b3)
        have HB2 := Lib.hid (HB.out.trans (b3.mono HB.out.size))
        clear HT HR HO HB b2 b3
        go_wp2
        exact bodyPost_ret (v := .tuple #[.agg #[.int .i64 1, .string (oB N), .slice A acc.length c, .bool false, .string ⟨#[]⟩, .int .i64 i], .int .i64 x1, .int .i64 x2]) (by simp [results, Tryz.results76, go_sem, cSs, r0, r1, r2, r3, r4, r5]) rfl ⟨_, rfl, row_six HO2.out _ _ _ _ _ _, below_six HB2.out _ _ _ _ _ _⟩
     ·rw [h3] at hst cH3
      rw [if_pos rfl] at hst
      have hm : ∀ wx, _ := fun wx => tref_missing s i ((m : Int) + 1) wx
      generalize misP s.size i ((m : Int) + 1) = mm at *
      obtain ⟨m1, m2⟩ := mm
      simp only at hm hst
      subst hst
      clear h1 h2 h3
      (go_wp2_with fail); (refine (c2 _).mono ?_); (rintro e w' ⟨rfl, rfl⟩)
      (go_wp2_with fail); (refine (cH1 _).mono ?_); (rintro e w' ⟨rfl, rfl⟩)
      (go_wp2_with fail); (refine (cH2 _).mono ?_); (rintro e w' ⟨rfl, rfl⟩)
      (go_wp2_with fail); (refine (cH3 _).mono ?_); (rintro e w' ⟨rfl, rfl⟩)
      (go_wp2_with fail); (refine (hm _).mono ?_); (rintro e w' ⟨rfl, rfl⟩)
      go_wp2
      exact bodyPost_ret (v := .tuple #[.agg #[.int .i64 1, .string (oB N), .slice A acc.length c, .bool false, .string ⟨#[]⟩, .int .i64 i], .int .i64 m1, .int .i64 m2]) (by simp [results, Tryz.results76, go_sem, cSs, r0, r1, r2, r3, r4, r5]) rfl ⟨_, rfl, row_six HO.out _ _ _ _ _ _, below_six HB.out _ _ _ _ _ _⟩
    ·rw [h2] at hst cH2
     rw [if_pos rfl] at hst
     subst hst
     clear h1 h2
     (go_wp2_with fail); (refine (c2 _).mono ?_); (rintro e w' ⟨rfl, rfl⟩)
     (go_wp2_with fail); (refine (cH1 _).mono ?_); (rintro e w' ⟨rfl, rfl⟩)
     (go_wp2_with fail); (refine (cH2 _).mono ?_); (rintro e w' ⟨rfl, rfl⟩)
     go_wp2
     exact bodyPost_ret (v := .tuple #[.agg #[.int .i64 1, .string (oB N), .slice A acc.length c, .bool true, .string ⟨#[]⟩, .int .i64 i], .int .i64 ((m : Int) + 2), .int .i64 0]) (by simp [results, Tryz.results76, go_sem, cSs, r0, r1, r2, r3, r4, r5]) rfl ⟨_, rfl, row_six (ownsRow_setCell_below HO.out (a := ⟨w.heap.size + 1, 3, none⟩) (by simp) _) _ _ _ _ _ _, below_six (HB.out.setCell (p := ⟨w.heap.size + 1, 3, none⟩) (by simp) _) _ _ _ _ _ _⟩
   ·rw [h1] at hst cH1
    rw [if_pos rfl] at hst
    subst hst
    clear h1
    (go_wp2_with fail); (refine (c2 _).mono ?_); (rintro e w' ⟨rfl, rfl⟩)
    (go_wp2_with fail); (refine (cH1 _).mono ?_); (rintro e w' ⟨rfl, rfl⟩)
    go_wp2
    exact bodyPost_ret (v := .tuple #[.agg #[.int .i64 1, .string (oB N), .slice A acc.length c, .bool false, .string ⟨#[]⟩, .int .i64 i], .int .i64 ((m : Int) + 1), .int .i64 0]) (by simp [results, Tryz.results76, go_sem, cSs, r0, r1, r2, r3, r4, r5]) rfl ⟨_, rfl, row_six HO.out _ _ _ _ _ _, below_six HB.out _ _ _ _ _ _⟩
structure TokD where
 kind : Int
 nm : List UInt8
 al : List AttrD
 em : Bool
 tx : List UInt8
 at' : Int
def tokZ : TokD := ⟨0, [], [], false, [], 0⟩
def tokT (tx : List UInt8) (a : Int) : TokD := ⟨3, [], [], false, tx, a⟩
def tokVal (t : TokD) (v : Value) : Value := .agg #[.int .i64 t.kind, .string (oB t.nm), v, .bool t.em, .string (oB t.tx), .int .i64 t.at']
def dataEnd (s : ByteArray) (i : Nat) : Nat := if nextP s.data.toList i [60] < 0 then s.size else (nextP s.data.toList i [60]).toNat
def cdataP (s : ByteArray) (i : Nat) : TokD × Int × Int :=
 if (skipP s.data.toList i 9 [93, 93, 62]).2 ≠ 0 then (tokZ, (skipP s.data.toList i 9 [93, 93, 62]).1, (skipP s.data.toList i 9 [93, 93, 62]).2)
 else (tokT (linesP ((s.data.toList.drop (i + 9)).take ((skipP s.data.toList i 9 [93, 93, 62]).1.toNat - 3 - (i + 9)))) i, (skipP s.data.toList i 9 [93, 93, 62]).1, 0)
def dataP (s : ByteArray) (i : Nat) : TokD × Int × Int := (tokT (contP s.data.toList i (dataEnd s i) false).1 i, (contP s.data.toList i (dataEnd s i) false).2.1, (contP s.data.toList i (dataEnd s i) false).2.2)
def consP (s : ByteArray) (i : Nat) : TokD × Int × Int :=
 if hasP s.data.toList (i : Int) [60, 63] then (tokT [] 0, (skipP s.data.toList i 2 [63, 62]).1, (skipP s.data.toList i 2 [63, 62]).2)
 else if hasP s.data.toList (i : Int) [60, 33, 45, 45] then (tokT [] 0, (skipP s.data.toList i 4 [45, 45, 62]).1, (skipP s.data.toList i 4 [45, 45, 62]).2)
 else if hasP s.data.toList (i : Int) [60, 33, 91, 67, 68, 65, 84, 65, 91] then cdataP s i
 else if hasP s.data.toList (i : Int) [60, 33, 68, 79, 67, 84, 89, 80, 69] then (tokZ, (i : Int), 11)
 else if hasP s.data.toList (i : Int) [60, 33] then (tokZ, (i : Int), 7)
 else if hasP s.data.toList (i : Int) [60, 47] then (⟨2, (endP s i).1, [], false, [], i⟩, (endP s i).2.1, (endP s i).2.2)
 else if hasP s.data.toList (i : Int) [60] then (⟨1, (startP s i).nm, (startP s i).al, (startP s i).em, [], i⟩, (startP s i).p1, (startP s i).p2)
 else dataP s i
def ConsIs (w0 : World) (R : TokD × Int × Int) (e : Ending) (w' : World) : Prop := ∃ v, e = .returned (.tuple #[tokVal R.1 v, .int .i64 R.2.1, .int .i64 R.2.2]) ∧ w'.ownsRow w0.heap.size 56 4 v R.1.al.length (aCs R.1.al) ∧ Below w0.heap.size w0 w'
theorem hasP_len {l : List UInt8} {i : Nat} {t : List UInt8} (h : hasP l (i : Int) t = true) (ht : t ≠ []) : i + t.length ≤ l.length := by
 unfold hasP at h
 rw [Bool.and_eq_true, Int.toNat_natCast] at h
 have h2 := (List.isPrefixOf_iff_prefix.1 h.2).length_le
 rw [List.length_drop] at h2
 have : 0 < t.length := List.length_pos_iff.2 ht
 omega
theorem row_six1 {w : World} {b : Nat} {t : TypeId} {v : Value} {n : Nat} {xs : List Value} (h : w.ownsRow (b + 1) t 4 v n xs) (u0 u1 u2 u3 u4 u5 : Value) : ((((((w.setCell ⟨b, 0, none⟩ u0).setCell ⟨b, 1, none⟩ u1).setCell ⟨b, 2, none⟩ u2).setCell ⟨b, 3, none⟩ u3).setCell ⟨b, 4, none⟩ u4).setCell ⟨b, 5, none⟩ u5).ownsRow b t 4 v n xs :=
 Go.Joins.ownsRow_le (ownsRow_setCell_below (ownsRow_setCell_below (ownsRow_setCell_below (ownsRow_setCell_below (ownsRow_setCell_below (ownsRow_setCell_below h (a := ⟨b, 0, none⟩) (by simp) _) (a := ⟨b, 1, none⟩) (by simp) _) (a := ⟨b, 2, none⟩) (by simp) _) (a := ⟨b, 3, none⟩) (by simp) _) (a := ⟨b, 4, none⟩) (by simp) _) (a := ⟨b, 5, none⟩) (by simp) _) (by omega)
theorem dataEnd_bd (s : ByteArray) (i : Nat) (hi : i ≤ s.size) : i ≤ dataEnd s i ∧ dataEnd s i ≤ s.size := by
 have hsl : s.data.toList.length = s.size := by simp
 unfold dataEnd
 have h := nextP_bd s.data.toList i [60]
 rw [hsl] at h
 simp only [List.length_cons, List.length_nil] at h
 split <;> omega
theorem skip_cdata (s : ByteArray) (i : Nat) (h : (skipP s.data.toList i 9 [93, 93, 62]).2 = 0) (hi : i + 9 ≤ s.size) : ∃ n : Nat, (skipP s.data.toList i 9 [93, 93, 62]).1 = (n : Int) ∧ i + 12 ≤ n ∧ n ≤ s.size := by
 have hsl : s.data.toList.length = s.size := by simp
 unfold skipP at h ⊢
 split at h
 ·simp at h
 ·rename_i h1
  rw [if_neg h1]
  have hb := nextP_bd s.data.toList (i + 9) [93, 93, 62]
  rw [hsl] at hb
  simp only [List.length_cons, List.length_nil] at hb ⊢
  exact ⟨(nextP s.data.toList (i + 9) [93, 93, 62]).toNat + 3, by omega, by omega, by omega⟩
set_option maxHeartbeats 8000000 in
theorem tref_construct (s : ByteArray) (i : Nat) (w : World) (hs : s.size ≤ 1000000) (hi : i < s.size) :
  Calls Tryz.prog 51 #[.string s, .int .i64 i] w fun e w' => ConsIs w (consP s i) e w' := by
 have hsl : s.data.toList.length = s.size := by simp
 have hi2 : (i : Int) ≤ 1000000 := by omega
 have cH : ∀ (t : ByteArray) wx, 0 < t.size → t.size ≤ 9 → _ := fun t wx h1 h2 => tref_Has s t (i : Int) wx hs (by omega) h1 (by omega)
 have k1 : ∀ wx, _ := fun wx => cH ⟨#[60, 63]⟩ wx (by decide) (by decide)
 have k2 : ∀ wx, _ := fun wx => cH ⟨#[60, 33, 45, 45]⟩ wx (by decide) (by decide)
 have k3 : ∀ wx, _ := fun wx => cH ⟨#[60, 33, 91, 67, 68, 65, 84, 65, 91]⟩ wx (by decide) (by decide)
 have k4 : ∀ wx, _ := fun wx => cH ⟨#[60, 33, 68, 79, 67, 84, 89, 80, 69]⟩ wx (by decide) (by decide)
 have k5 : ∀ wx, _ := fun wx => cH ⟨#[60, 33]⟩ wx (by decide) (by decide)
 have k6 : ∀ wx, _ := fun wx => cH ⟨#[60, 47]⟩ wx (by decide) (by decide)
 have k7 : ∀ wx, _ := fun wx => cH ⟨#[60]⟩ wx (by decide) (by decide)
 rw [show (⟨#[60, 63]⟩ : ByteArray).data.toList = [60, 63] from rfl] at k1
 rw [show (⟨#[60, 33, 45, 45]⟩ : ByteArray).data.toList = [60, 33, 45, 45] from rfl] at k2
 rw [show (⟨#[60, 33, 91, 67, 68, 65, 84, 65, 91]⟩ : ByteArray).data.toList = [60, 33, 91, 67, 68, 65, 84, 65, 91] from rfl] at k3
 rw [show (⟨#[60, 33, 68, 79, 67, 84, 89, 80, 69]⟩ : ByteArray).data.toList = [60, 33, 68, 79, 67, 84, 89, 80, 69] from rfl] at k4
 rw [show (⟨#[60, 33]⟩ : ByteArray).data.toList = [60, 33] from rfl] at k5
 rw [show (⟨#[60, 47]⟩ : ByteArray).data.toList = [60, 47] from rfl] at k6
 rw [show (⟨#[60]⟩ : ByteArray).data.toList = [60] from rfl] at k7
 obtain ⟨CP, hE⟩ : ∃ CP, consP s i = CP := ⟨_, rfl⟩
 rw [hE]
 unfold consP at hE
 have hbel : Below w.heap.size w (w.alloc (.cells #[.int .i64 0, .string ⟨#[]⟩, .slice none 0 0, .bool false, .string ⟨#[]⟩, .int .i64 0] 73)) := (Below.refl _ _).alloc (Nat.le_refl _) _
 have hres : ResAt (w.alloc (.cells #[.int .i64 0, .string ⟨#[]⟩, .slice none 0 0, .bool false, .string ⟨#[]⟩, .int .i64 0] 73)) w.heap.size := by
  refine ⟨⟨?_, ?_, ?_, ?_, ?_, ?_⟩, ?_, ?_, ?_, ?_, ?_, ?_⟩
  all_goals first | (rw [World.cell?_alloc_at _ _ _ _ rfl]; rfl) | (rw [World.frozen?_alloc_at _ _ _ _ rfl])
 have hsz : w.heap.size + 1 ≤ (w.alloc (.cells #[.int .i64 0, .string ⟨#[]⟩, .slice none 0 0, .bool false, .string ⟨#[]⟩, .int .i64 0] 73)).heap.size := by simp
 clear cH
 rcases h1 : hasP s.data.toList (i : Int) [60, 63] with _ | _
 ·rw [h1] at hE k1
  rw [if_neg (by decide)] at hE
  rcases h2 : hasP s.data.toList (i : Int) [60, 33, 45, 45] with _ | _
  ·rw [h2] at hE k2
   rw [if_neg (by decide)] at hE
   rcases h3 : hasP s.data.toList (i : Int) [60, 33, 91, 67, 68, 65, 84, 65, 91] with _ | _
   ·rw [h3] at hE k3
    rw [if_neg (by decide)] at hE
    rcases h4 : hasP s.data.toList (i : Int) [60, 33, 68, 79, 67, 84, 89, 80, 69] with _ | _
    ·rw [h4] at hE k4
     rw [if_neg (by decide)] at hE
     rcases h5 : hasP s.data.toList (i : Int) [60, 33] with _ | _
     ·rw [h5] at hE k5
      rw [if_neg (by decide)] at hE
      rcases h6 : hasP s.data.toList (i : Int) [60, 47] with _ | _
      ·rw [h6] at hE k6
       rw [if_neg (by decide)] at hE
       rcases h7 : hasP s.data.toList (i : Int) [60] with _ | _
       ·rw [h7] at hE k7
        rw [if_neg (by decide)] at hE
        subst hE
        unfold dataP
        have cF : ∀ wx, _ := fun wx => tref_find s ⟨#[60]⟩ i wx hs (by decide) (by decide) (by omega)
        rw [show (⟨#[60]⟩ : ByteArray).data.toList = [60] from rfl] at cF
        have hde := dataEnd_bd s i (by omega)
        have cC : ∀ wx, _ := fun wx => tref_content s i (dataEnd s i) false wx hs hde.2 hde.1
        generalize contP s.data.toList i (dataEnd s i) false = cp at *
        obtain ⟨V, x1, x2⟩ := cp
        simp only at cC
        by_cases hno : nextP s.data.toList i [60] < 0
        ·have hd : dataEnd s i = s.size := if_pos hno
         rw [hd] at cC
         generalize nextP s.data.toList i [60] = np at *
         clear h1 h2 h3 h4 h5 h6 h7 hd hde hsl
         go_enter Tryz.func51, Tryz.ntmps51
         go_wp2_with fail
         refine (k1 _).mono ?_
         rintro e w' ⟨rfl, rfl⟩
         generalize w.alloc (.cells #[.int .i64 0, .string ⟨#[]⟩, .slice none 0 0, .bool false, .string ⟨#[]⟩, .int .i64 0] 73) = w1 at *
         have HR := Lib.hid hres
         (go_wp2_with fail); (refine (k2 _).mono ?_); (rintro e w' ⟨rfl, rfl⟩)
         (go_wp2_with fail); (refine (k3 _).mono ?_); (rintro e w' ⟨rfl, rfl⟩)
         (go_wp2_with fail); (refine (k4 _).mono ?_); (rintro e w' ⟨rfl, rfl⟩)
         (go_wp2_with fail); (refine (k5 _).mono ?_); (rintro e w' ⟨rfl, rfl⟩)
         (go_wp2_with fail); (refine (k6 _).mono ?_); (rintro e w' ⟨rfl, rfl⟩)
         (go_wp2_with fail); (refine (k7 _).mono ?_); (rintro e w' ⟨rfl, rfl⟩)
         (go_wp2_with fail); (refine (cF _).mono ?_); (rintro e w' ⟨rfl, rfl⟩)
         go_wp2_with fail
         refine (cC _).mono ?_
         rintro e w2 ⟨rfl, b2⟩
         replace hres := hres.below b2 (by omega)
         have hb2 := hbel.trans (b2.mono (by omega))
         obtain ⟨⟨r0, r1, r2, r3, r4, r5⟩, q0, q1, q2, q3, q4, q5⟩ := hres
         go_wp2
         exact bodyPost_ret (v := .tuple #[(.agg #[.int .i64 3, .string ⟨#[]⟩, .slice none 0 0, .bool false, .string (oB V), .int .i64 (i : Int)]), .int .i64 x1, .int .i64 x2]) (by simp [results, Tryz.results51, go_sem, cSs, r0, r1, r2, r3, r4, r5]) rfl ⟨_, rfl, row_six1 (World.ownsRow_nil _ _ _ _) _ _ _ _ _ _, below_six hb2 _ _ _ _ _ _⟩
        ·have hd : dataEnd s i = (nextP s.data.toList i [60]).toNat := if_neg hno
         have hnp : ((dataEnd s i : Nat) : Int) = nextP s.data.toList i [60] := by omega
         rw [hnp] at cC
         generalize nextP s.data.toList i [60] = np at *
         have hnp2 : ¬ np < 0 := hno
         clear h1 h2 h3 h4 h5 h6 h7 hd hde hsl hnp
         go_enter Tryz.func51, Tryz.ntmps51
         go_wp2_with fail
         refine (k1 _).mono ?_
         rintro e w' ⟨rfl, rfl⟩
         generalize w.alloc (.cells #[.int .i64 0, .string ⟨#[]⟩, .slice none 0 0, .bool false, .string ⟨#[]⟩, .int .i64 0] 73) = w1 at *
         have HR := Lib.hid hres
         (go_wp2_with fail); (refine (k2 _).mono ?_); (rintro e w' ⟨rfl, rfl⟩)
         (go_wp2_with fail); (refine (k3 _).mono ?_); (rintro e w' ⟨rfl, rfl⟩)
         (go_wp2_with fail); (refine (k4 _).mono ?_); (rintro e w' ⟨rfl, rfl⟩)
         (go_wp2_with fail); (refine (k5 _).mono ?_); (rintro e w' ⟨rfl, rfl⟩)
         (go_wp2_with fail); (refine (k6 _).mono ?_); (rintro e w' ⟨rfl, rfl⟩)
         (go_wp2_with fail); (refine (k7 _).mono ?_); (rintro e w' ⟨rfl, rfl⟩)
         (go_wp2_with fail); (refine (cF _).mono ?_); (rintro e w' ⟨rfl, rfl⟩)
         go_wp2_with fail
         refine (cC _).mono ?_
         rintro e w2 ⟨rfl, b2⟩
         replace hres := hres.below b2 (by omega)
         have hb2 := hbel.trans (b2.mono (by omega))
         obtain ⟨⟨r0, r1, r2, r3, r4, r5⟩, q0, q1, q2, q3, q4, q5⟩ := hres
         go_wp2
         exact bodyPost_ret (v := .tuple #[(.agg #[.int .i64 3, .string ⟨#[]⟩, .slice none 0 0, .bool false, .string (oB V), .int .i64 (i : Int)]), .int .i64 x1, .int .i64 x2]) (by simp [results, Tryz.results51, go_sem, cSs, r0, r1, r2, r3, r4, r5]) rfl ⟨_, rfl, row_six1 (World.ownsRow_nil _ _ _ _) _ _ _ _ _ _, below_six hb2 _ _ _ _ _ _⟩
       ·rw [h7] at hE k7
        rw [if_pos rfl] at hE
        have hi1 := hasP_len h7 (by decide)
        rw [hsl] at hi1
        have cS : ∀ wx, _ := fun wx => tref_start s i wx hs (by simpa using hi1)
        generalize startP s i = SP at *
        obtain ⟨sn, sa, se, x1, x2⟩ := SP
        simp only at hE
        subst hE
        clear h1 h2 h3 h4 h5 h6 h7 hsl hi1
        go_enter Tryz.func51, Tryz.ntmps51
        go_wp2_with fail
        refine (k1 _).mono ?_
        rintro e w' ⟨rfl, rfl⟩
        generalize w.alloc (.cells #[.int .i64 0, .string ⟨#[]⟩, .slice none 0 0, .bool false, .string ⟨#[]⟩, .int .i64 0] 73) = w1 at *
        have HR := Lib.hid hres
        (go_wp2_with fail); (refine (k2 _).mono ?_); (rintro e w' ⟨rfl, rfl⟩)
        (go_wp2_with fail); (refine (k3 _).mono ?_); (rintro e w' ⟨rfl, rfl⟩)
        (go_wp2_with fail); (refine (k4 _).mono ?_); (rintro e w' ⟨rfl, rfl⟩)
        (go_wp2_with fail); (refine (k5 _).mono ?_); (rintro e w' ⟨rfl, rfl⟩)
        (go_wp2_with fail); (refine (k6 _).mono ?_); (rintro e w' ⟨rfl, rfl⟩)
        (go_wp2_with fail); (refine (k7 _).mono ?_); (rintro e w' ⟨rfl, rfl⟩)
        go_wp2_with fail
        refine (cS _).mono ?_
        rintro e w2 ⟨v, rfl, hown, b2⟩
        simp only at hown
        obtain ⟨A, c, rfl⟩ := own_form hown
        replace hres := hres.below b2 (by omega)
        have hb2 := hbel.trans (b2.mono (by omega))
        obtain ⟨⟨r0, r1, r2, r3, r4, r5⟩, q0, q1, q2, q3, q4, q5⟩ := hres
        go_wp2
        exact bodyPost_ret (v := .tuple #[(.agg #[.int .i64 1, .string (oB sn), .slice A sa.length c, .bool se, .string ⟨#[]⟩, .int .i64 (i : Int)]), .int .i64 x1, .int .i64 x2]) (by simp [results, Tryz.results51, go_sem, cSs, r0, r1, r2, r3, r4, r5]) rfl ⟨_, rfl, row_six1 (Go.Joins.ownsRow_le hown hsz) _ _ _ _ _ _, below_six hb2 _ _ _ _ _ _⟩
      ·rw [h6] at hE k6
       rw [if_pos rfl] at hE
       have hi1 := hasP_len h6 (by decide)
       rw [hsl] at hi1
       have cS : ∀ wx, _ := fun wx => tref_end s i wx hs (by simpa using hi1)
       generalize endP s i = EP at *
       obtain ⟨sn, x1, x2⟩ := EP
       simp only [tokV] at hE cS
       subst hE
       clear h1 h2 h3 h4 h5 h6 hsl hi1
       go_enter Tryz.func51, Tryz.ntmps51
       go_wp2_with fail
       refine (k1 _).mono ?_
       rintro e w' ⟨rfl, rfl⟩
       generalize w.alloc (.cells #[.int .i64 0, .string ⟨#[]⟩, .slice none 0 0, .bool false, .string ⟨#[]⟩, .int .i64 0] 73) = w1 at *
       have HR := Lib.hid hres
       (go_wp2_with fail); (refine (k2 _).mono ?_); (rintro e w' ⟨rfl, rfl⟩)
       (go_wp2_with fail); (refine (k3 _).mono ?_); (rintro e w' ⟨rfl, rfl⟩)
       (go_wp2_with fail); (refine (k4 _).mono ?_); (rintro e w' ⟨rfl, rfl⟩)
       (go_wp2_with fail); (refine (k5 _).mono ?_); (rintro e w' ⟨rfl, rfl⟩)
       (go_wp2_with fail); (refine (k6 _).mono ?_); (rintro e w' ⟨rfl, rfl⟩)
       go_wp2_with fail
       refine (cS _).mono ?_
       rintro e w2 ⟨rfl, b2⟩
       replace hres := hres.below b2 (by omega)
       have hb2 := hbel.trans (b2.mono (by omega))
       obtain ⟨⟨r0, r1, r2, r3, r4, r5⟩, q0, q1, q2, q3, q4, q5⟩ := hres
       go_wp2
       exact bodyPost_ret (v := .tuple #[(.agg #[.int .i64 2, .string (oB sn), .slice none 0 0, .bool false, .string (oB []), .int .i64 (i : Int)]), .int .i64 x1, .int .i64 x2]) (by simp [results, Tryz.results51, go_sem, cSs, r0, r1, r2, r3, r4, r5]) rfl ⟨_, rfl, row_six1 (World.ownsRow_nil _ _ _ _) _ _ _ _ _ _, below_six hb2 _ _ _ _ _ _⟩
     ·rw [h5] at hE k5
      rw [if_pos rfl] at hE
      subst hE
      clear h1 h2 h3 h4 h5 hsl
      go_enter Tryz.func51, Tryz.ntmps51
      go_wp2_with fail
      refine (k1 _).mono ?_
      rintro e w' ⟨rfl, rfl⟩
      generalize w.alloc (.cells #[.int .i64 0, .string ⟨#[]⟩, .slice none 0 0, .bool false, .string ⟨#[]⟩, .int .i64 0] 73) = w1 at *
      have HR := Lib.hid hres
      obtain ⟨⟨r0, r1, r2, r3, r4, r5⟩, q0, q1, q2, q3, q4, q5⟩ := hres
      (go_wp2_with fail); (refine (k2 _).mono ?_); (rintro e w' ⟨rfl, rfl⟩)
      (go_wp2_with fail); (refine (k3 _).mono ?_); (rintro e w' ⟨rfl, rfl⟩)
      (go_wp2_with fail); (refine (k4 _).mono ?_); (rintro e w' ⟨rfl, rfl⟩)
      (go_wp2_with fail); (refine (k5 _).mono ?_); (rintro e w' ⟨rfl, rfl⟩)
      go_wp2
      exact bodyPost_ret (v := .tuple #[(.agg #[.int .i64 0, .string ⟨#[]⟩, .slice none 0 0, .bool false, .string ⟨#[]⟩, .int .i64 0]), .int .i64 (i : Int), .int .i64 7]) (by simp [results, Tryz.results51, go_sem, cSs, r0, r1, r2, r3, r4, r5]) rfl ⟨_, rfl, row_six1 (World.ownsRow_nil _ _ _ _) _ _ _ _ _ _, below_six hbel _ _ _ _ _ _⟩
    ·rw [h4] at hE k4
     rw [if_pos rfl] at hE
     subst hE
     clear h1 h2 h3 h4 hsl
     go_enter Tryz.func51, Tryz.ntmps51
     go_wp2_with fail
     refine (k1 _).mono ?_
     rintro e w' ⟨rfl, rfl⟩
     generalize w.alloc (.cells #[.int .i64 0, .string ⟨#[]⟩, .slice none 0 0, .bool false, .string ⟨#[]⟩, .int .i64 0] 73) = w1 at *
     have HR := Lib.hid hres
     obtain ⟨⟨r0, r1, r2, r3, r4, r5⟩, q0, q1, q2, q3, q4, q5⟩ := hres
     (go_wp2_with fail); (refine (k2 _).mono ?_); (rintro e w' ⟨rfl, rfl⟩)
     (go_wp2_with fail); (refine (k3 _).mono ?_); (rintro e w' ⟨rfl, rfl⟩)
     (go_wp2_with fail); (refine (k4 _).mono ?_); (rintro e w' ⟨rfl, rfl⟩)
     go_wp2
     exact bodyPost_ret (v := .tuple #[(.agg #[.int .i64 0, .string ⟨#[]⟩, .slice none 0 0, .bool false, .string ⟨#[]⟩, .int .i64 0]), .int .i64 (i : Int), .int .i64 11]) (by simp [results, Tryz.results51, go_sem, cSs, r0, r1, r2, r3, r4, r5]) rfl ⟨_, rfl, row_six1 (World.ownsRow_nil _ _ _ _) _ _ _ _ _ _, below_six hbel _ _ _ _ _ _⟩
   ·rw [h3] at hE k3
    rw [if_pos rfl] at hE
    unfold cdataP at hE
    have hi1 := hasP_len h3 (by decide)
    rw [hsl] at hi1
    simp only [List.length_cons, List.length_nil] at hi1
    have cS : ∀ wx, _ := fun wx => tref_skip s ⟨#[60, 33, 91, 67, 68, 65, 84, 65, 91]⟩ ⟨#[93, 93, 62]⟩ i wx hs (by decide) (by decide) (by decide) (by omega)
    rw [show (⟨#[60, 33, 91, 67, 68, 65, 84, 65, 91]⟩ : ByteArray).size = 9 from rfl, show (⟨#[93, 93, 62]⟩ : ByteArray).data.toList = [93, 93, 62] from rfl] at cS
    have hsk := skip_cdata s i
    generalize skipP s.data.toList i 9 [93, 93, 62] = sk at *
    obtain ⟨x1, x2⟩ := sk
    simp only at hE cS hsk
    by_cases hx : x2 = 0
    ·rw [if_neg (by simpa using hx)] at hE
     obtain ⟨n, rfl, hn1, hn2⟩ := hsk hx (by omega)
     rw [Int.toNat_natCast] at hE
     subst hx
     subst hE
     have hsc : ∀ wx, _ := fun wx => slice_mid s ((i : Int) + 9) ((n : Int) - 3) (by omega) (by omega) (by omega) wx
     rw [show ((i : Int) + 9).toNat = i + 9 by omega, show ((n : Int) - 3).toNat = n - 3 by omega, kext] at hsc
     have hl3 : ((s.data.toList.drop (i + 9)).take (n - 3 - (i + 9))).length ≤ 1000000 := by rw [List.length_take, List.length_drop]; omega
     have cL : ∀ wx, _ := fun wx => tref_Lines (oB ((s.data.toList.drop (i + 9)).take (n - 3 - (i + 9)))) wx (by rw [oBz]; exact hl3)
     rw [oBl] at cL
     generalize (s.data.toList.drop (i + 9)).take (n - 3 - (i + 9)) = part at *
     have hn3 : (n : Int) ≤ 1000000 := by omega
     have hn4 : (i : Int) + 12 ≤ (n : Int) := by omega
     clear h1 h2 h3 hsl hi1 hsk hl3
     go_enter Tryz.func51, Tryz.ntmps51
     go_wp2_with fail
     refine (k1 _).mono ?_
     rintro e w' ⟨rfl, rfl⟩
     generalize w.alloc (.cells #[.int .i64 0, .string ⟨#[]⟩, .slice none 0 0, .bool false, .string ⟨#[]⟩, .int .i64 0] 73) = w1 at *
     have HR := Lib.hid hres
     (go_wp2_with fail); (refine (k2 _).mono ?_); (rintro e w' ⟨rfl, rfl⟩)
     (go_wp2_with fail); (refine (k3 _).mono ?_); (rintro e w' ⟨rfl, rfl⟩)
     (go_wp2_with fail); (refine (cS _).mono ?_); (rintro e w' ⟨rfl, rfl⟩)
     go_wp2_with fail
     refine (cL _).mono ?_
     rintro e w2 ⟨rfl, b2⟩
     replace hres := hres.below b2 (by omega)
     have hb2 := hbel.trans (b2.mono (by omega))
     obtain ⟨⟨r0, r1, r2, r3, r4, r5⟩, q0, q1, q2, q3, q4, q5⟩ := hres
     go_wp2
     exact bodyPost_ret (v := .tuple #[(.agg #[.int .i64 3, .string ⟨#[]⟩, .slice none 0 0, .bool false, .string (oB (linesP part)), .int .i64 (i : Int)]), .int .i64 (n : Int), .int .i64 0]) (by simp [results, Tryz.results51, go_sem, cSs, r0, r1, r2, r3, r4, r5]) rfl ⟨_, rfl, row_six1 (World.ownsRow_nil _ _ _ _) _ _ _ _ _ _, below_six hb2 _ _ _ _ _ _⟩
    ·rw [if_pos hx] at hE
     have hxb : (x2 != 0) = true := by simpa using hx
     subst hE
     clear h1 h2 h3 hsl hi1 hsk hx
     go_enter Tryz.func51, Tryz.ntmps51
     go_wp2_with fail
     refine (k1 _).mono ?_
     rintro e w' ⟨rfl, rfl⟩
     generalize w.alloc (.cells #[.int .i64 0, .string ⟨#[]⟩, .slice none 0 0, .bool false, .string ⟨#[]⟩, .int .i64 0] 73) = w1 at *
     have HR := Lib.hid hres
     obtain ⟨⟨r0, r1, r2, r3, r4, r5⟩, q0, q1, q2, q3, q4, q5⟩ := hres
     (go_wp2_with fail); (refine (k2 _).mono ?_); (rintro e w' ⟨rfl, rfl⟩)
     (go_wp2_with fail); (refine (k3 _).mono ?_); (rintro e w' ⟨rfl, rfl⟩)
     (go_wp2_with fail); (refine (cS _).mono ?_); (rintro e w' ⟨rfl, rfl⟩)
     go_wp2
     exact bodyPost_ret (v := .tuple #[(.agg #[.int .i64 0, .string ⟨#[]⟩, .slice none 0 0, .bool false, .string ⟨#[]⟩, .int .i64 0]), .int .i64 x1, .int .i64 x2]) (by simp [results, Tryz.results51, go_sem, cSs, r0, r1, r2, r3, r4, r5]) rfl ⟨_, rfl, row_six1 (World.ownsRow_nil _ _ _ _) _ _ _ _ _ _, below_six hbel _ _ _ _ _ _⟩
  ·rw [h2] at hE k2
   rw [if_pos rfl] at hE
   have cS : ∀ wx, _ := fun wx => tref_skip s ⟨#[60, 33, 45, 45]⟩ ⟨#[45, 45, 62]⟩ i wx hs (by decide) (by decide) (by decide) (by omega)
   rw [show (⟨#[60, 33, 45, 45]⟩ : ByteArray).size = 4 from rfl, show (⟨#[45, 45, 62]⟩ : ByteArray).data.toList = [45, 45, 62] from rfl] at cS
   generalize skipP s.data.toList i 4 [45, 45, 62] = sk at *
   obtain ⟨x1, x2⟩ := sk
   simp only at hE cS
   subst hE
   clear h1 h2 hsl
   go_enter Tryz.func51, Tryz.ntmps51
   go_wp2_with fail
   refine (k1 _).mono ?_
   rintro e w' ⟨rfl, rfl⟩
   generalize w.alloc (.cells #[.int .i64 0, .string ⟨#[]⟩, .slice none 0 0, .bool false, .string ⟨#[]⟩, .int .i64 0] 73) = w1 at *
   have HR := Lib.hid hres
   obtain ⟨⟨r0, r1, r2, r3, r4, r5⟩, q0, q1, q2, q3, q4, q5⟩ := hres
   (go_wp2_with fail); (refine (k2 _).mono ?_); (rintro e w' ⟨rfl, rfl⟩)
   (go_wp2_with fail); (refine (cS _).mono ?_); (rintro e w' ⟨rfl, rfl⟩)
   go_wp2
   exact bodyPost_ret (v := .tuple #[(.agg #[.int .i64 3, .string ⟨#[]⟩, .slice none 0 0, .bool false, .string ⟨#[]⟩, .int .i64 0]), .int .i64 x1, .int .i64 x2]) (by simp [results, Tryz.results51, go_sem, cSs, r0, r1, r2, r3, r4, r5]) rfl ⟨_, rfl, row_six1 (World.ownsRow_nil _ _ _ _) _ _ _ _ _ _, below_six hbel _ _ _ _ _ _⟩
 ·rw [h1] at hE k1
  rw [if_pos rfl] at hE
  have cS : ∀ wx, _ := fun wx => tref_skip s ⟨#[60, 63]⟩ ⟨#[63, 62]⟩ i wx hs (by decide) (by decide) (by decide) (by omega)
  rw [show (⟨#[60, 63]⟩ : ByteArray).size = 2 from rfl, show (⟨#[63, 62]⟩ : ByteArray).data.toList = [63, 62] from rfl] at cS
  generalize skipP s.data.toList i 2 [63, 62] = sk at *
  obtain ⟨x1, x2⟩ := sk
  simp only at hE cS
  subst hE
  clear h1 hsl
  go_enter Tryz.func51, Tryz.ntmps51
  go_wp2_with fail
  refine (k1 _).mono ?_
  rintro e w' ⟨rfl, rfl⟩
  generalize w.alloc (.cells #[.int .i64 0, .string ⟨#[]⟩, .slice none 0 0, .bool false, .string ⟨#[]⟩, .int .i64 0] 73) = w1 at *
  have HR := Lib.hid hres
  obtain ⟨⟨r0, r1, r2, r3, r4, r5⟩, q0, q1, q2, q3, q4, q5⟩ := hres
  (go_wp2_with fail); (refine (cS _).mono ?_); (rintro e w' ⟨rfl, rfl⟩)
  go_wp2
  exact bodyPost_ret (v := .tuple #[(.agg #[.int .i64 3, .string ⟨#[]⟩, .slice none 0 0, .bool false, .string ⟨#[]⟩, .int .i64 0]), .int .i64 x1, .int .i64 x2]) (by simp [results, Tryz.results51, go_sem, cSs, r0, r1, r2, r3, r4, r5]) rfl ⟨_, rfl, row_six1 (World.ownsRow_nil _ _ _ _) _ _ _ _ _ _, below_six hbel _ _ _ _ _ _⟩
end
section
open Go.RowKit
theorem contF_ok (l : List UInt8) (j : Nat) (v : Bool) : ∀ f i out, (contF l j v f i out).2.2 = 0 → (contF l j v f i out).2.1 = (j : Int)
 | 0, i, out, _ => rfl
 | f + 1, i, out, h => by
  rw [contF] at h ⊢
  split
  ·rename_i h1
   rw [if_pos h1] at h
   split
   ·rename_i h2
    rw [if_pos h2] at h
    split
    ·rename_i h3
     rw [if_pos h3] at h
     exact contF_ok l j v f _ _ h
    ·rename_i h3
     rw [if_neg h3] at h
     exact absurd h h3
   ·rename_i h2
    rw [if_neg h2] at h
    exact contF_ok l j v f _ _ h
  ·rfl
theorem contP_ok (l : List UInt8) (i j : Nat) (v : Bool) (h : (contP l i j v).2.2 = 0) : (contP l i j v).2.1 = (j : Int) := contF_ok l j v _ _ _ h
theorem skipP_ok (s : ByteArray) (i n : Nat) (t : List UInt8) (ht : t ≠ []) (hi : i + n ≤ s.size) (h : (skipP s.data.toList i n t).2 = 0) : ∃ z : Nat, (skipP s.data.toList i n t).1 = (z : Int) ∧ i < z ∧ z ≤ s.size := by
 have hsl : s.data.toList.length = s.size := by simp
 have h0 : 0 < t.length := List.length_pos_iff.2 ht
 unfold skipP at h ⊢
 split at h
 ·simp at h
 ·rename_i h1
  rw [if_neg h1]
  have hb := nextP_bd s.data.toList (i + n) t
  rw [hsl] at hb
  exact ⟨(nextP s.data.toList (i + n) t + (t.length : Int)).toNat, by omega, by omega, by omega⟩
theorem endP_ok (s : ByteArray) (i : Nat) (hi : i + 2 ≤ s.size) (h : (endP s i).2.2 = 0) : ∃ z : Nat, (endP s i).2.1 = (z : Int) ∧ i < z ∧ z ≤ s.size := by
 have hsl : s.data.toList.length = s.size := by simp
 rw [endP_def] at h ⊢
 have hb := nmP_le s (i + 2) hi
 generalize nmP s (i + 2) = n at *
 have hk := spP_le s.data.toList n (by omega)
 generalize spP s.data.toList n = k at *
 split at h
 ·exact absurd h (misP_ne _ _ _)
 ·rename_i h1
  rw [if_neg h1]
  split at h
  ·rename_i h2
   rw [if_pos h2]
   have := hasP_len h2 (by decide)
   simp only [List.length_cons, List.length_nil] at this
   exact ⟨k + 1, by simp, by omega, by omega⟩
  ·exact absurd h (misP_ne _ _ _)
theorem startGo_ok (s : ByteArray) (i : Nat) (N : List UInt8) : ∀ f a acc, s.size - a < f → i < a → a ≤ s.size → (startGo s i N f a acc).p2 = 0 → ∃ z : Nat, (startGo s i N f a acc).p1 = (z : Int) ∧ i < z ∧ z ≤ s.size
 | 0, a, acc, hf, _, _, _ => absurd hf (by omega)
 | f + 1, a, acc, hf, hia, ha, h => by
  have hsl : s.data.toList.length = s.size := by simp
  rw [startGo] at h ⊢
  have hk := spP_le s.data.toList a (by omega)
  rw [hsl] at hk
  generalize spP s.data.toList a = m at *
  split
  ·rename_i h1
   have := hasP_len h1 (by decide)
   simp only [List.length_cons, List.length_nil] at this
   exact ⟨m + 1, by simp, by omega, by omega⟩
  ·rename_i h1
   rw [if_neg h1] at h
   split
   ·rename_i h2
    have := hasP_len h2 (by decide)
    simp only [List.length_cons, List.length_nil] at this
    exact ⟨m + 2, by simp, by omega, by omega⟩
   ·rename_i h2
    rw [if_neg h2] at h
    split
    ·rename_i h3
     rw [if_pos h3] at h
     exact absurd h (misP_ne _ _ _)
    ·rename_i h3
     rw [if_neg h3] at h
     split
     ·rename_i h4
      rw [if_pos h4] at h
      exact absurd h (misP_ne _ _ _)
     ·rename_i h4
      rw [if_neg h4] at h
      split
      ·rename_i h5
       rw [if_pos h5] at h
       exact absurd h h5
      ·rename_i h5
       rw [if_neg h5] at h
       obtain ⟨z, hz, hz1, hz2⟩ := attrP_ok s i m (by omega) (by simpa using h5)
       split
       ·rename_i h6
        rw [if_pos h6] at h
        simp at h
       ·rename_i h6
        rw [if_neg h6] at h
        rw [hz, Int.toNat_natCast] at h ⊢
        exact startGo_ok s i N f z _ (by omega) (by omega) hz2 h
theorem startP_ok (s : ByteArray) (i : Nat) (hi : i + 1 ≤ s.size) (h : (startP s i).p2 = 0) : ∃ z : Nat, (startP s i).p1 = (z : Int) ∧ i < z ∧ z ≤ s.size := by
 unfold startP at h ⊢
 have hb := nmP_le s (i + 1) hi
 split
 ·rename_i h1
  rw [if_pos h1] at h
  exact absurd h (misP_ne _ _ _)
 ·rename_i h1
  rw [if_neg h1] at h
  exact startGo_ok s i _ _ _ _ (by omega) (by omega) hb.2 h
theorem consP_ok (s : ByteArray) (i : Nat) (hi : i < s.size) (h : (consP s i).2.2 = 0) : ∃ z : Nat, (consP s i).2.1 = (z : Int) ∧ i < z ∧ z ≤ s.size := by
 have hsl : s.data.toList.length = s.size := by simp
 unfold consP at h ⊢
 split
 ·rename_i h1
  rw [if_pos h1] at h
  have := hasP_len h1 (by decide)
  rw [hsl] at this
  exact skipP_ok s i 2 _ (by decide) this h
 ·rename_i h1
  rw [if_neg h1] at h
  split
  ·rename_i h2
   rw [if_pos h2] at h
   have := hasP_len h2 (by decide)
   rw [hsl] at this
   exact skipP_ok s i 4 _ (by decide) this h
  ·rename_i h2
   rw [if_neg h2] at h
   split
   ·rename_i h3
    rw [if_pos h3] at h
    have hl := hasP_len h3 (by decide)
    rw [hsl] at hl
    unfold cdataP at h ⊢
    split
    ·rename_i h4
     rw [if_pos h4] at h
     exact absurd h h4
    ·rename_i h4
     exact skipP_ok s i 9 _ (by decide) hl (by simpa using h4)
   ·rename_i h3
    rw [if_neg h3] at h
    split
    ·rename_i h4
     rw [if_pos h4] at h
     simp at h
    ·rename_i h4
     rw [if_neg h4] at h
     split
     ·rename_i h5
      rw [if_pos h5] at h
      simp at h
     ·rename_i h5
      rw [if_neg h5] at h
      split
      ·rename_i h6
       rw [if_pos h6] at h
       have hl := hasP_len h6 (by decide)
       rw [hsl] at hl
       exact endP_ok s i hl h
      ·rename_i h6
       rw [if_neg h6] at h
       split
       ·rename_i h7
        rw [if_pos h7] at h
        have hl := hasP_len h7 (by decide)
        rw [hsl] at hl
        exact startP_ok s i hl h
       ·rename_i h7
        rw [if_neg h7] at h
        unfold dataP at h ⊢
        have hb := dataEnd_bd s i (by omega)
        refine ⟨dataEnd s i, contP_ok _ _ _ _ h, ?_, hb.2⟩
        have hm := nextP_miss s.data.toList i [60] (by omega) (by simpa using h7)
        have hn := nextP_bd s.data.toList (i + 1) [60]
        unfold dataEnd
        rw [hm]
        split <;> omega
def tokCells (p : TokD × Value) : List Value := [.int .i64 p.1.kind, .string (oB p.1.nm), p.2, .bool p.1.em, .string (oB p.1.tx), .int .i64 p.1.at']
def toksCells (ps : List (TokD × Value)) : List Value := ps.flatMap tokCells
theorem toksCells_app (l m : List (TokD × Value)) : toksCells (l ++ m) = toksCells l ++ toksCells m := by unfold toksCells; rw [List.flatMap_append]
def TokRow (w : World) (B : Nat) (v : Value) (ps : List (TokD × Value)) : Prop := w.ownsRow B 73 6 v ps.length (toksCells ps) ∧ ∀ p ∈ ps, w.ownsRow B 56 4 p.2 p.1.al.length (aCs p.1.al)
theorem TokRow.below {w w' : World} {B : Nat} {v : Value} {ps : List (TokD × Value)} (h : TokRow w B v ps) (hb : Below w.heap.size w w') : TokRow w' B v ps := ⟨row_below h.1 hb, fun p hp => row_below (h.2 p hp) hb⟩
theorem rows_apart {w : World} {B B' : Nat} {e e' : TypeId} {k k' n n' : Nat} {v v' : Value} {xs xs' : List Value} (h : w.ownsRow B e k v n xs) (h' : w.ownsRow B' e' k' v' n' xs') (hne : e ≠ e') : v.ownBlock = none ∨ v.ownBlock ≠ v'.ownBlock := by
 rcases hg : v.ownBlock with _ | g
 ·exact .inl rfl
 ·right
  intro heq
  obtain ⟨c1, f1, h1⟩ := Go.Lib.ownsRow_kind h g hg
  obtain ⟨c2, f2, h2⟩ := Go.Lib.ownsRow_kind h' g heq.symm
  rw [h1] at h2
  injection h2 with h3
  injection h3 with _ h4
  exact hne h4
def tokGo (s : ByteArray) : Nat → Nat → List TokD → List TokD × Int × Int
 | 0, _, acc => (acc, (s.size : Int), 0)
 | f + 1, a, acc => if a < s.size then (if (consP s a).2.2 ≠ 0 then ([], (consP s a).2.1, (consP s a).2.2)
   else tokGo s f (consP s a).2.1.toNat (if (consP s a).1.kind ≠ 3 ∨ (consP s a).1.tx ≠ [] then acc ++ [(consP s a).1] else acc)) else (acc, (s.size : Int), 0)
def toksP (s : ByteArray) : List TokD × Int × Int :=
 if (chk s).2 ≠ 0 then ([], ((chk s).1 : Int), ((chk s).2 : Int)) else tokGo s (s.size + 1) (if hasP s.data.toList 0 [239, 187, 191] then 3 else 0) []
def ToksIs (w0 : World) (R : List TokD × Int × Int) (e : Ending) (w' : World) : Prop := ∃ v ps, e = .returned (.tuple #[v, .int .i64 R.2.1, .int .i64 R.2.2]) ∧ ps.map Prod.fst = R.1 ∧ TokRow w' w0.heap.size v ps ∧ Below w0.heap.size w0 w'
theorem kinfo_tok : (Tryz.prog.info? 73).map (fun i => (i.zero, i.size, i.bytes)) = some (some (.agg #[.int .i64 0, .string ⟨#[]⟩, .slice none 0 0, .bool false, .string ⟨#[]⟩, .int .i64 0]), 6, 80) := by kernel_rfl
theorem tok_one (t : TokD) (A : Option Addr) (n c : Nat) : ∀ u ∈ tokCells (t, .slice A n c), u.oneCell' = true := by
 intro u hu
 simp [tokCells] at hu
 rcases hu with rfl | rfl | rfl | rfl | rfl | rfl <;> rfl
theorem tok_new (w : World) (ty : TypeId) (p : TokD × Value) : ∀ j u, (tokCells p)[j]? = some u → (w.alloc (.cells #[.int .i64 p.1.kind, .string (oB p.1.nm), p.2, .bool p.1.em, .string (oB p.1.tx), .int .i64 p.1.at'] ty)).cell? ((⟨w.heap.size, 0, none⟩ : Addr).add j) = some u := by
 intro j u hu
 rw [addr_add, World.cell?_alloc_at _ _ _ _ rfl, List.getElem?_toArray]
 exact hu
theorem tok_new2 (w : World) (o : Obj) (ty : TypeId) (p : TokD × Value) : ∀ j u, (tokCells p)[j]? = some u → ((w.alloc o).alloc (.cells #[.int .i64 p.1.kind, .string (oB p.1.nm), p.2, .bool p.1.em, .string (oB p.1.tx), .int .i64 p.1.at'] ty)).cell? ((⟨w.heap.size + 1, 0, none⟩ : Addr).add j) = some u := by
 have h : w.heap.size + 1 = (w.alloc o).heap.size := by simp
 rw [h]
 exact tok_new _ _ _
theorem tok_apart : (56 : TypeId) ≠ 73 := by decide
set_option maxHeartbeats 8000000 in
theorem tref_Tokens (s : ByteArray) (w : World) (hs : s.size ≤ 1000000) :
  Calls Tryz.prog 31 #[.string s] w fun e w' => ToksIs w (toksP s) e w' := by
 obtain ⟨i0, hi0, hi1, hi3, hi4⟩ := info_parts kinfo_tok
 have hsl : s.data.toList.length = s.size := by simp
 have HSL := Lib.hid hsl
 have cK : ∀ wx, _ := fun wx => ref_Check s wx (by unfold maxLen; omega)
 have cB : ∀ wx, _ := fun wx => tref_Has s ⟨#[239, 187, 191]⟩ 0 wx hs (by decide) (by decide) (by omega)
 rw [show (⟨#[239, 187, 191]⟩ : ByteArray).data.toList = [239, 187, 191] from rfl] at cB
 have hE : toksP s = if (chk s).2 ≠ 0 then ([], ((chk s).1 : Int), ((chk s).2 : Int)) else tokGo s (s.size + 1) (if hasP s.data.toList 0 [239, 187, 191] then 3 else 0) [] := rfl
 generalize toksP s = TP at *
 generalize chk s = ck at *
 obtain ⟨k1, k2⟩ := ck
 simp only at cK hE
 by_cases hk : k2 = 0
 ·rw [if_neg (by simpa using hk)] at hE
  subst hk
  rw [show ((0 : Nat) : Int) = 0 from rfl] at cK
  rcases hB : hasP s.data.toList 0 [239, 187, 191] with _ | _
  ·rw [hB] at hE cB
   rw [if_neg (show ¬ (false = true) by decide)] at hE
   have hq3 : 0 ≤ s.size := Nat.zero_le _
   clear hB hsl
   go_enter Tryz.func31, Tryz.ntmps31
   go_wp2_with fail
   refine (cK _).mono ?_
   rintro e w1 ⟨rfl, b1⟩
   (go_wp2_with fail); (refine (cB _).mono ?_); (rintro e w' ⟨rfl, rfl⟩)
   go_wp2
   go_loopw [5, 7] (fun a v wr => ∃ (k f : Nat) (ps : List (TokD × Value)) (A : Option Addr) (c : Nat), a = .int .i64 k ∧ k ≤ s.size ∧ TP = tokGo s f k (ps.map Prod.fst) ∧ s.size - k < f ∧ v = .slice A ps.length c ∧ TokRow wr w.heap.size (.slice A ps.length c) ps ∧ Below w.heap.size w wr ∧ ps.length ≤ k) (fun a _ _ => s.size - (intOf a).toNat)
   case atStart => exact ⟨0, s.size + 1, [], none, 0, rfl, hq3, hE, by omega, rfl, ⟨World.ownsRow_nil _ _ _ _, fun p hp => by cases hp⟩, b1, Nat.zero_le _⟩
   case round =>
    clear hE
    obtain ⟨k, f, ps, A, c, rfl, hk, hst, hf, rfl, hrow, hbel, hpl⟩ := hrel
    obtain ⟨f, rfl⟩ : ∃ g, f = g + 1 := ⟨f - 1, by omega⟩
    rw [tokGo] at hst
    have hz := hbel.size
    by_cases hlt : k < s.size
    ·rw [if_pos hlt] at hst
     have hkz : (k : Int) < (s.size : Int) := by omega
     have cC : ∀ wx, _ := fun wx => tref_construct s k wx hs hlt
     have hok := consP_ok s k hlt
     generalize consP s k = cp at *
     obtain ⟨⟨kd, nm, al, em, tx, at'⟩, x1, x2⟩ := cp
     simp only at hst hok
     by_cases hx : x2 = 0
     ·rw [if_neg (by simpa using hx)] at hst
      obtain ⟨z, rfl, hz1, hz2⟩ := hok hx
      subst hx
      rw [Int.toNat_natCast] at hst
      go_wp2_with fail
      refine (cC _).mono ?_
      rintro e w2 ⟨u, rfl, hown, b2⟩
      simp only [tokVal] at hown ⊢
      obtain ⟨A2, c2, rfl⟩ := own_form hown
      have hrow2 := hrow.below b2
      have hown2 := Go.Joins.ownsRow_le hown hz
      have hb2 : Below w.heap.size w w2 := hbel.trans (b2.mono hz)
      clear hrow hown b2 hbel
      by_cases hkd : kd = 3
      ·by_cases htx : tx = []
       ·rw [if_neg (by rintro (h | h) <;> contradiction)] at hst
        have hte : (oB tx).toList.isEmpty = true := by rw [ByteArray.toList_eq, oBl, htx]; rfl
        subst hkd
        clear htx
        generalize oB tx = TX at *
        go_wp2
        go_roundw
        case rel => exact ⟨z, f, ps, A, c, by go_num, hz2, hst, by omega, rfl, hrow2.below ((Below.refl _ _).alloc (Nat.le_refl _) _), hb2.alloc (by have := hb2.size; omega) _, by omega⟩
        case measure => simp [intOf]; omega
       ·rw [if_pos (.inr htx)] at hst
        have hte : (oB tx).toList.isEmpty = false := by
         rw [ByteArray.toList_eq, oBl]
         cases tx with
         | nil => exact absurd rfl htx
         | cons _ _ => rfl
        subst hkd
        go_wp2_with (at_builtin; refine wpList_append_own _ rfl (.tmp 45) (.tmp 47) 67 rfl w.heap.size 73 i0 (.agg #[.int .i64 0, .string ⟨#[]⟩, .slice none 0 0, .bool false, .string ⟨#[]⟩, .int .i64 0]) 6 80 Tryz.underlying67 hi0 hi1 hi3 hi4 rfl (by decide) (.slice A ps.length c) ps.length (toksCells ps) rfl ((hrow2.1.alloc _).alloc _) ⟨w2.heap.size + 1, 0, none⟩ 1 1 (tokCells (⟨3, nm, al, em, tx, at'⟩, .slice A2 al.length c2)) rfl rfl (tok_new2 _ _ _ (⟨3, nm, al, em, tx, at'⟩, .slice A2 al.length c2)) (tok_one _ _ _ _) (by unfold maxLen; omega) (by omega) (by simp; have := hb2.size; omega) ?_; intro v' w4 hown' hgr' _; obtain ⟨A', c', rfl⟩ := own_form hown')
        have hb4 : Below w.heap.size w w4 := ((hb2.alloc (by have := hb2.size; omega) _).alloc (by simp; have := hb2.size; omega) _).grown hgr' (by simp; have := hb2.size; omega) (fun g hg => (hrow2.1.lt g hg).1)
        have hrow5 : TokRow w4 w.heap.size (.slice A' (ps ++ [((⟨3, nm, al, em, tx, at'⟩ : TokD), Value.slice A2 al.length c2)]).length c') (ps ++ [((⟨3, nm, al, em, tx, at'⟩ : TokD), Value.slice A2 al.length c2)]) := by
         refine ⟨?_, fun q hq => ?_⟩
         ·rw [toksCells_app, List.length_append]
          exact hown'
         ·have hq2 : w2.ownsRow w.heap.size 56 4 q.2 q.1.al.length (aCs q.1.al) := by
           rcases List.mem_append.1 hq with h | h
           ·exact hrow2.2 q h
           ·rw [List.mem_singleton.1 h]; exact hown2
          exact ((hq2.alloc _).alloc _).kept hgr' (rows_apart hq2 hrow2.1 tok_apart)
        have hst2 : TP = tokGo s f z ((ps ++ [((⟨3, nm, al, em, tx, at'⟩ : TokD), Value.slice A2 al.length c2)]).map Prod.fst) := by rw [List.map_append]; exact hst
        clear hown' hgr' hrow2 hown2 hst
        go_wp2
        go_roundw
        case rel => exact ⟨z, f, _, A', c', by go_num, hz2, hst2, by omega, by rw [List.length_append]; rfl, hrow5, hb4, by rw [List.length_append, List.length_singleton]; omega⟩
        case measure => simp [intOf]; omega
      ·rw [if_pos (.inl hkd)] at hst
       have hkdb : (kd != 3) = true := by simpa using hkd
       go_wp2_with (at_builtin; refine wpList_append_own _ rfl (.tmp 45) (.tmp 47) 67 rfl w.heap.size 73 i0 (.agg #[.int .i64 0, .string ⟨#[]⟩, .slice none 0 0, .bool false, .string ⟨#[]⟩, .int .i64 0]) 6 80 Tryz.underlying67 hi0 hi1 hi3 hi4 rfl (by decide) (.slice A ps.length c) ps.length (toksCells ps) rfl ((hrow2.1.alloc _).alloc _) ⟨w2.heap.size + 1, 0, none⟩ 1 1 (tokCells (⟨kd, nm, al, em, tx, at'⟩, .slice A2 al.length c2)) rfl rfl (tok_new2 _ _ _ (⟨kd, nm, al, em, tx, at'⟩, .slice A2 al.length c2)) (tok_one _ _ _ _) (by unfold maxLen; omega) (by omega) (by simp; have := hb2.size; omega) ?_; intro v' w4 hown' hgr' _; obtain ⟨A', c', rfl⟩ := own_form hown')
       have hb4 : Below w.heap.size w w4 := ((hb2.alloc (by have := hb2.size; omega) _).alloc (by simp; have := hb2.size; omega) _).grown hgr' (by simp; have := hb2.size; omega) (fun g hg => (hrow2.1.lt g hg).1)
       have hrow5 : TokRow w4 w.heap.size (.slice A' (ps ++ [((⟨kd, nm, al, em, tx, at'⟩ : TokD), Value.slice A2 al.length c2)]).length c') (ps ++ [((⟨kd, nm, al, em, tx, at'⟩ : TokD), Value.slice A2 al.length c2)]) := by
        refine ⟨?_, fun q hq => ?_⟩
        ·rw [toksCells_app, List.length_append]
         exact hown'
        ·have hq2 : w2.ownsRow w.heap.size 56 4 q.2 q.1.al.length (aCs q.1.al) := by
          rcases List.mem_append.1 hq with h | h
          ·exact hrow2.2 q h
          ·rw [List.mem_singleton.1 h]; exact hown2
         exact ((hq2.alloc _).alloc _).kept hgr' (rows_apart hq2 hrow2.1 tok_apart)
       have hst2 : TP = tokGo s f z ((ps ++ [((⟨kd, nm, al, em, tx, at'⟩ : TokD), Value.slice A2 al.length c2)]).map Prod.fst) := by rw [List.map_append]; exact hst
       clear hown' hgr' hrow2 hown2 hst
       go_wp2
       go_roundw
       case rel => exact ⟨z, f, _, A', c', by go_num, hz2, hst2, by omega, by rw [List.length_append]; rfl, hrow5, hb4, by rw [List.length_append, List.length_singleton]; omega⟩
       case measure => simp [intOf]; omega
     ·rw [if_pos hx] at hst
      have hxb : (x2 != 0) = true := by simpa using hx
      subst hst
      go_wp2_with fail
      refine (cC _).mono ?_
      rintro e w2 ⟨u, rfl, hown, b2⟩
      simp only [tokVal] at hown ⊢
      obtain ⟨A2, c2, rfl⟩ := own_form hown
      have hb2 : Below w.heap.size w w2 := hbel.trans (b2.mono hz)
      clear hrow hown b2 hbel hok hx
      go_wp2
      exact bodyPost_ret (v := .tuple #[.slice none 0 0, .int .i64 x1, .int .i64 x2]) (by simp [results, Tryz.results31, go_sem]) rfl ⟨_, [], rfl, rfl, ⟨World.ownsRow_nil _ _ _ _, fun p hp => by cases hp⟩, hb2.alloc (by have := hb2.size; omega) _⟩
    ·rw [if_neg hlt] at hst
     have hkz : ¬ (k : Int) < (s.size : Int) := by omega
     subst hst
     go_wp2
     exact bodyPost_ret (v := .tuple #[.slice A ps.length c, .int .i64 s.size, .int .i64 0]) (by simp [results, Tryz.results31, go_sem]) rfl ⟨_, ps, rfl, rfl, hrow, hbel⟩
  ·rw [hB] at hE cB
   rw [if_pos (show true = true from rfl)] at hE
   have hq3 : 3 ≤ s.size := by
    have := hasP_len (i := 0) hB (by decide)
    rw [hsl] at this
    simpa using this
   clear hB hsl
   go_enter Tryz.func31, Tryz.ntmps31
   go_wp2_with fail
   refine (cK _).mono ?_
   rintro e w1 ⟨rfl, b1⟩
   (go_wp2_with fail); (refine (cB _).mono ?_); (rintro e w' ⟨rfl, rfl⟩)
   go_wp2
   go_loopw [5, 7] (fun a v wr => ∃ (k f : Nat) (ps : List (TokD × Value)) (A : Option Addr) (c : Nat), a = .int .i64 k ∧ k ≤ s.size ∧ TP = tokGo s f k (ps.map Prod.fst) ∧ s.size - k < f ∧ v = .slice A ps.length c ∧ TokRow wr w.heap.size (.slice A ps.length c) ps ∧ Below w.heap.size w wr ∧ ps.length ≤ k) (fun a _ _ => s.size - (intOf a).toNat)
   case atStart => exact ⟨3, s.size + 1, [], none, 0, rfl, hq3, hE, by omega, rfl, ⟨World.ownsRow_nil _ _ _ _, fun p hp => by cases hp⟩, b1, Nat.zero_le _⟩
   case round =>
    clear hE
    obtain ⟨k, f, ps, A, c, rfl, hk, hst, hf, rfl, hrow, hbel, hpl⟩ := hrel
    obtain ⟨f, rfl⟩ : ∃ g, f = g + 1 := ⟨f - 1, by omega⟩
    rw [tokGo] at hst
    have hz := hbel.size
    by_cases hlt : k < s.size
    ·rw [if_pos hlt] at hst
     have hkz : (k : Int) < (s.size : Int) := by omega
     have cC : ∀ wx, _ := fun wx => tref_construct s k wx hs hlt
     have hok := consP_ok s k hlt
     generalize consP s k = cp at *
     obtain ⟨⟨kd, nm, al, em, tx, at'⟩, x1, x2⟩ := cp
     simp only at hst hok
     by_cases hx : x2 = 0
     ·rw [if_neg (by simpa using hx)] at hst
      obtain ⟨z, rfl, hz1, hz2⟩ := hok hx
      subst hx
      rw [Int.toNat_natCast] at hst
      go_wp2_with fail
      refine (cC _).mono ?_
      rintro e w2 ⟨u, rfl, hown, b2⟩
      simp only [tokVal] at hown ⊢
      obtain ⟨A2, c2, rfl⟩ := own_form hown
      have hrow2 := hrow.below b2
      have hown2 := Go.Joins.ownsRow_le hown hz
      have hb2 : Below w.heap.size w w2 := hbel.trans (b2.mono hz)
      clear hrow hown b2 hbel
      by_cases hkd : kd = 3
      ·by_cases htx : tx = []
       ·rw [if_neg (by rintro (h | h) <;> contradiction)] at hst
        have hte : (oB tx).toList.isEmpty = true := by rw [ByteArray.toList_eq, oBl, htx]; rfl
        subst hkd
        clear htx
        generalize oB tx = TX at *
        go_wp2
        go_roundw
        case rel => exact ⟨z, f, ps, A, c, by go_num, hz2, hst, by omega, rfl, hrow2.below ((Below.refl _ _).alloc (Nat.le_refl _) _), hb2.alloc (by have := hb2.size; omega) _, by omega⟩
        case measure => simp [intOf]; omega
       ·rw [if_pos (.inr htx)] at hst
        have hte : (oB tx).toList.isEmpty = false := by
         rw [ByteArray.toList_eq, oBl]
         cases tx with
         | nil => exact absurd rfl htx
         | cons _ _ => rfl
        subst hkd
        go_wp2_with (at_builtin; refine wpList_append_own _ rfl (.tmp 45) (.tmp 47) 67 rfl w.heap.size 73 i0 (.agg #[.int .i64 0, .string ⟨#[]⟩, .slice none 0 0, .bool false, .string ⟨#[]⟩, .int .i64 0]) 6 80 Tryz.underlying67 hi0 hi1 hi3 hi4 rfl (by decide) (.slice A ps.length c) ps.length (toksCells ps) rfl ((hrow2.1.alloc _).alloc _) ⟨w2.heap.size + 1, 0, none⟩ 1 1 (tokCells (⟨3, nm, al, em, tx, at'⟩, .slice A2 al.length c2)) rfl rfl (tok_new2 _ _ _ (⟨3, nm, al, em, tx, at'⟩, .slice A2 al.length c2)) (tok_one _ _ _ _) (by unfold maxLen; omega) (by omega) (by simp; have := hb2.size; omega) ?_; intro v' w4 hown' hgr' _; obtain ⟨A', c', rfl⟩ := own_form hown')
        have hb4 : Below w.heap.size w w4 := ((hb2.alloc (by have := hb2.size; omega) _).alloc (by simp; have := hb2.size; omega) _).grown hgr' (by simp; have := hb2.size; omega) (fun g hg => (hrow2.1.lt g hg).1)
        have hrow5 : TokRow w4 w.heap.size (.slice A' (ps ++ [((⟨3, nm, al, em, tx, at'⟩ : TokD), Value.slice A2 al.length c2)]).length c') (ps ++ [((⟨3, nm, al, em, tx, at'⟩ : TokD), Value.slice A2 al.length c2)]) := by
         refine ⟨?_, fun q hq => ?_⟩
         ·rw [toksCells_app, List.length_append]
          exact hown'
         ·have hq2 : w2.ownsRow w.heap.size 56 4 q.2 q.1.al.length (aCs q.1.al) := by
           rcases List.mem_append.1 hq with h | h
           ·exact hrow2.2 q h
           ·rw [List.mem_singleton.1 h]; exact hown2
          exact ((hq2.alloc _).alloc _).kept hgr' (rows_apart hq2 hrow2.1 tok_apart)
        have hst2 : TP = tokGo s f z ((ps ++ [((⟨3, nm, al, em, tx, at'⟩ : TokD), Value.slice A2 al.length c2)]).map Prod.fst) := by rw [List.map_append]; exact hst
        clear hown' hgr' hrow2 hown2 hst
        go_wp2
        go_roundw
        case rel => exact ⟨z, f, _, A', c', by go_num, hz2, hst2, by omega, by rw [List.length_append]; rfl, hrow5, hb4, by rw [List.length_append, List.length_singleton]; omega⟩
        case measure => simp [intOf]; omega
      ·rw [if_pos (.inl hkd)] at hst
       have hkdb : (kd != 3) = true := by simpa using hkd
       go_wp2_with (at_builtin; refine wpList_append_own _ rfl (.tmp 45) (.tmp 47) 67 rfl w.heap.size 73 i0 (.agg #[.int .i64 0, .string ⟨#[]⟩, .slice none 0 0, .bool false, .string ⟨#[]⟩, .int .i64 0]) 6 80 Tryz.underlying67 hi0 hi1 hi3 hi4 rfl (by decide) (.slice A ps.length c) ps.length (toksCells ps) rfl ((hrow2.1.alloc _).alloc _) ⟨w2.heap.size + 1, 0, none⟩ 1 1 (tokCells (⟨kd, nm, al, em, tx, at'⟩, .slice A2 al.length c2)) rfl rfl (tok_new2 _ _ _ (⟨kd, nm, al, em, tx, at'⟩, .slice A2 al.length c2)) (tok_one _ _ _ _) (by unfold maxLen; omega) (by omega) (by simp; have := hb2.size; omega) ?_; intro v' w4 hown' hgr' _; obtain ⟨A', c', rfl⟩ := own_form hown')
       have hb4 : Below w.heap.size w w4 := ((hb2.alloc (by have := hb2.size; omega) _).alloc (by simp; have := hb2.size; omega) _).grown hgr' (by simp; have := hb2.size; omega) (fun g hg => (hrow2.1.lt g hg).1)
       have hrow5 : TokRow w4 w.heap.size (.slice A' (ps ++ [((⟨kd, nm, al, em, tx, at'⟩ : TokD), Value.slice A2 al.length c2)]).length c') (ps ++ [((⟨kd, nm, al, em, tx, at'⟩ : TokD), Value.slice A2 al.length c2)]) := by
        refine ⟨?_, fun q hq => ?_⟩
        ·rw [toksCells_app, List.length_append]
         exact hown'
        ·have hq2 : w2.ownsRow w.heap.size 56 4 q.2 q.1.al.length (aCs q.1.al) := by
          rcases List.mem_append.1 hq with h | h
          ·exact hrow2.2 q h
          ·rw [List.mem_singleton.1 h]; exact hown2
         exact ((hq2.alloc _).alloc _).kept hgr' (rows_apart hq2 hrow2.1 tok_apart)
       have hst2 : TP = tokGo s f z ((ps ++ [((⟨kd, nm, al, em, tx, at'⟩ : TokD), Value.slice A2 al.length c2)]).map Prod.fst) := by rw [List.map_append]; exact hst
       clear hown' hgr' hrow2 hown2 hst
       go_wp2
       go_roundw
       case rel => exact ⟨z, f, _, A', c', by go_num, hz2, hst2, by omega, by rw [List.length_append]; rfl, hrow5, hb4, by rw [List.length_append, List.length_singleton]; omega⟩
       case measure => simp [intOf]; omega
     ·rw [if_pos hx] at hst
      have hxb : (x2 != 0) = true := by simpa using hx
      subst hst
      go_wp2_with fail
      refine (cC _).mono ?_
      rintro e w2 ⟨u, rfl, hown, b2⟩
      simp only [tokVal] at hown ⊢
      obtain ⟨A2, c2, rfl⟩ := own_form hown
      have hb2 : Below w.heap.size w w2 := hbel.trans (b2.mono hz)
      clear hrow hown b2 hbel hok hx
      go_wp2
      exact bodyPost_ret (v := .tuple #[.slice none 0 0, .int .i64 x1, .int .i64 x2]) (by simp [results, Tryz.results31, go_sem]) rfl ⟨_, [], rfl, rfl, ⟨World.ownsRow_nil _ _ _ _, fun p hp => by cases hp⟩, hb2.alloc (by have := hb2.size; omega) _⟩
    ·rw [if_neg hlt] at hst
     have hkz : ¬ (k : Int) < (s.size : Int) := by omega
     subst hst
     go_wp2
     exact bodyPost_ret (v := .tuple #[.slice A ps.length c, .int .i64 s.size, .int .i64 0]) (by simp [results, Tryz.results31, go_sem]) rfl ⟨_, ps, rfl, rfl, hrow, hbel⟩
 ·rw [if_pos hk] at hE
  have hkb : ((k2 : Int) != 0) = true := by simpa using hk
  subst hE
  go_enter Tryz.func31, Tryz.ntmps31
  go_wp2_with fail
  refine (cK _).mono ?_
  rintro e w1 ⟨rfl, b1⟩
  go_wp2
  exact bodyPost_ret (v := .tuple #[.slice none 0 0, .int .i64 k1, .int .i64 k2]) (by simp [results, Tryz.results31, go_sem]) rfl ⟨_, [], rfl, rfl, ⟨World.ownsRow_nil _ _ _ _, fun p hp => by cases hp⟩, b1⟩
theorem kbl {w : World} {a : Addr} {v : Value} (hc : w.cell? a = some v) : a.block < w.heap.size := by
 rcases Nat.lt_or_ge a.block w.heap.size with h' | h'
 ·exact h'
 ·simp [World.cell?, Array.getElem?_eq_none h'] at hc
theorem AttrsAt.below {w w' : World} {p : Option Addr} {l : List AttrD} (h : AttrsAt w p l) (hb : Below w.heap.size w w') : AttrsAt w' p l := by
 intro i hi
 obtain ⟨a, ha, h0, h1, h2, h3⟩ := h i hi
 exact ⟨a, ha, (hb.cell (kbl h0)).trans h0, (hb.cell (kbl h1)).trans h1, (hb.cell (kbl h2)).trans h2, (hb.cell (kbl h3)).trans h3⟩
def TokensAt (w : World) (p : Option Addr) (l : List TokD) : Prop := ∀ i (h : i < l.length), ∃ a q c, p = some a ∧
 (w.cell? (a.add (i * 6)) = some (.int .i64 l[i].kind) ∧ w.cell? ((a.add (i * 6)).add 1) = some (.string (oB l[i].nm)) ∧ w.cell? ((a.add (i * 6)).add 2) = some (.slice q l[i].al.length c) ∧ w.cell? ((a.add (i * 6)).add 3) = some (.bool l[i].em) ∧ w.cell? ((a.add (i * 6)).add 4) = some (.string (oB l[i].tx)) ∧ w.cell? ((a.add (i * 6)).add 5) = some (.int .i64 l[i].at')) ∧ AttrsAt w q l[i].al
theorem TokensAt.below {w w' : World} {p : Option Addr} {l : List TokD} (h : TokensAt w p l) (hb : Below w.heap.size w w') : TokensAt w' p l := by
 intro i hi
 obtain ⟨a, q, c, ha, ⟨h0, h1, h2, h3, h4, h5⟩, h6⟩ := h i hi
 exact ⟨a, q, c, ha, ⟨(hb.cell (kbl h0)).trans h0, (hb.cell (kbl h1)).trans h1, (hb.cell (kbl h2)).trans h2, (hb.cell (kbl h3)).trans h3, (hb.cell (kbl h4)).trans h4, (hb.cell (kbl h5)).trans h5⟩, h6.below hb⟩
theorem toksCells_at : ∀ (l : List (TokD × Value)) (i : Nat) (h : i < l.length) (k : Nat), k < 6 → (toksCells l)[i * 6 + k]? = (tokCells l[i])[k]?
 | [], i, h, _, _ => absurd h (Nat.not_lt_zero _)
 | x :: r, 0, _, k, hk => by
  show (tokCells x ++ toksCells r)[0 * 6 + k]? = (tokCells x)[k]?
  rw [List.getElem?_append_left (by show 0 * 6 + k < 6; omega)]
  simp
 | x :: r, i + 1, h, k, hk => by
  show (tokCells x ++ toksCells r)[(i + 1) * 6 + k]? = _
  rw [List.getElem?_append_right (by show 6 ≤ (i + 1) * 6 + k; omega)]
  show (toksCells r)[(i + 1) * 6 + k - 6]? = _
  rw [show (i + 1) * 6 + k - 6 = i * 6 + k by omega, toksCells_at r i (by simpa using h) k hk]
  rfl
theorem tokens_of_row {w : World} {B : Nat} {A : Option Addr} {n c : Nat} {ps : List (TokD × Value)} (h : TokRow w B (.slice A n c) ps) : n = ps.length ∧ TokensAt w A (ps.map Prod.fst) := by
 obtain ⟨h1, h2⟩ := h
 obtain ⟨A', c', he⟩ := own_form h1
 injection he with e1 e2 e3
 refine ⟨e2, fun i hi => ?_⟩
 rw [List.length_map] at hi
 have hc := fun g => h1.cells (g := g)
 rcases h1.2 with ⟨h0, h00⟩ | ⟨g, cap, cur, hv, _⟩
 ·omega
 ·injection hv with hA
  subst hA
  have hk : ∀ k v, k < 6 → (tokCells ps[i])[k]? = some v → w.cell? (((⟨g, 0, none⟩ : Addr).add (i * 6)).add k) = some v := by
   intro k v hk hv
   rw [addr_add2, ← addr_add]
   exact hc g rfl (i * 6 + k) v (by rw [toksCells_at ps i hi k hk]; exact hv)
  have hrow := h2 ps[i] (List.getElem_mem _)
  obtain ⟨A2, c2, ha⟩ := own_form hrow
  have g0 := hk 0 _ (by omega) rfl
  rw [addr_add2, Nat.add_zero, ← addr_add] at g0
  have g2 := hk 2 _ (by omega) rfl
  rw [ha] at hrow
  simp only [List.getElem_map]
  refine ⟨_, A2, c2, rfl, ⟨g0, hk 1 _ (by omega) rfl, ?_, hk 3 _ (by omega) rfl, hk 4 _ (by omega) rfl, hk 5 _ (by omega) rfl⟩, attrs_of_row hrow⟩
  rw [g2, ha]
end
section
open Go.RowKit
theorem linesP_plain : ∀ l : List UInt8, (∀ x ∈ l, x ≠ 13) → linesP l = l
 | [], _ => rfl
 | c :: r, h => by
  have hc := h c List.mem_cons_self
  rw [linesP, if_neg (fun e => hc e.1), if_neg hc, linesP_plain r fun x hx => h x (List.mem_cons_of_mem _ hx)]
theorem spMap_plain (v : Bool) : ∀ l : List UInt8, (v = true → ∀ x ∈ l, x ≠ 9 ∧ x ≠ 10 ∧ x ≠ 13) → spMap v l = l := by
 intro l h
 unfold spMap
 cases v
 ·rfl
 ·have h1 := h rfl
  simp only [if_true]
  conv => rhs; rw [← List.map_id l]
  refine List.map_congr_left fun x hx => ?_
  obtain ⟨a, b, c⟩ := h1 x hx
  unfold spOne
  split
  ·rename_i hs
   have h32 : x = 32 := by
    apply UInt8.toNat_inj.1
    have h9 : x.toNat ≠ 9 := fun e => a (UInt8.toNat_inj.1 e)
    have h10 : x.toNat ≠ 10 := fun e => b (UInt8.toNat_inj.1 e)
    have h13 : x.toNat ≠ 13 := fun e => c (UInt8.toNat_inj.1 e)
    have : (x.toNat : Int) = 9 ∨ (x.toNat : Int) = 10 ∨ (x.toNat : Int) = 13 ∨ (x.toNat : Int) = 32 := by
     unfold spB isSpaceB at hs
     simp at hs
     omega
    show x.toNat = 32
    omega
   rw [h32]; rfl
  ·rfl
def plainOf (attr : Bool) (l : List UInt8) : List UInt8 := l.takeWhile fun c => escB attr c == [c]
theorem plain_split (attr : Bool) (l : List UInt8) : ∃ r, l = plainOf attr l ++ r ∧ (r = [] ∨ ∃ c t, r = c :: t ∧ escB attr c ≠ [c]) := by
 induction l with
 | nil => exact ⟨[], rfl, .inl rfl⟩
 | cons c t ih =>
  by_cases h : escB attr c = [c]
  ·obtain ⟨r, h1, h2⟩ := ih
   refine ⟨r, ?_, h2⟩
   unfold plainOf at h1 ⊢
   rw [List.takeWhile_cons, if_pos (by simpa using h), List.cons_append, ← h1]
  ·refine ⟨c :: t, ?_, .inr ⟨c, t, rfl, h⟩⟩
   unfold plainOf
   rw [List.takeWhile_cons, if_neg (by simpa using h)]; rfl
theorem plain_all (attr : Bool) : ∀ (l : List UInt8), ∀ x ∈ plainOf attr l, escB attr x = [x]
 | [], x, hx => by cases hx
 | c :: t, x, hx => by
  unfold plainOf at hx
  rw [List.takeWhile_cons] at hx
  split at hx
  ·rename_i h
   rcases List.mem_cons.1 hx with rfl | hx
   ·simpa using h
   ·exact plain_all attr t x hx
  ·cases hx
theorem escP_plain (attr : Bool) : ∀ q : List UInt8, (∀ x ∈ q, escB attr x = [x]) → escP attr q = q
 | [], _ => rfl
 | c :: r, h => by rw [escP_cons, h c List.mem_cons_self, escP_plain attr r fun x hx => h x (List.mem_cons_of_mem _ hx)]; rfl
theorem amp_app (q r : List UInt8) (hq : ∀ x ∈ q, x ≠ 38) (hr : r = [] ∨ ∃ t, r = 38 :: t) : amp (q ++ r) = q := by
 induction q with
 | nil =>
  rcases hr with rfl | ⟨t, rfl⟩
  ·rfl
  ·rfl
 | cons c t ih =>
  rw [List.cons_append, amp_cons c _ (hq c List.mem_cons_self), ih fun x hx => hq x (List.mem_cons_of_mem _ hx)]
theorem escB_one {attr : Bool} {c : UInt8} (h : escB attr c = [c]) : c ≠ 38 ∧ c ≠ 13 ∧ (attr = true → c ≠ 9 ∧ c ≠ 10) := by
 refine ⟨?_, ?_, fun ha => ⟨?_, ?_⟩⟩
 ·rintro rfl; cases attr <;> simp [escB] at h
 ·rintro rfl; cases attr <;> simp [escB] at h
 ·rintro rfl; rw [ha] at h; simp [escB] at h
 ·rintro rfl; rw [ha] at h; simp [escB] at h
theorem contF_esc (attr v : Bool) (hv : v = true → attr = true) : ∀ (f : Nat) (l pre post out : List UInt8), (escP attr l).length < f →
  contF (pre ++ escP attr l ++ post) (pre.length + (escP attr l).length) v f pre.length out = (out ++ l, ((pre.length + (escP attr l).length : Nat) : Int), 0)
 | 0, l, pre, post, out, h => absurd h (by omega)
 | f + 1, [], pre, post, out, h => by
  rw [contF, if_neg (by show ¬ pre.length < pre.length + 0; omega), List.append_nil]
 | f + 1, c :: t, pre, post, out, h => by
  obtain ⟨r, h1, h2⟩ := plain_split attr (c :: t)
  have hq := plain_all attr (c :: t)
  generalize plainOf attr (c :: t) = q at *
  rcases Nat.eq_zero_or_pos q.length with h0 | h0
  ·obtain rfl := List.length_eq_zero_iff.1 h0
   rw [List.nil_append] at h1
   subst h1
   rcases h2 with h2 | ⟨c', t', h2, h3⟩
   ·cases h2
   ·injection h2 with e1 e2
    subst e1 e2
    rcases esc_cases attr c with ⟨h4, _⟩ | ⟨body, h4, h5, h6, h7, h8⟩
    ·exact absurd h4 h3
    ·have hlen : (escB attr c).length = body.length + 2 := by rw [h4]; simp
     have hE : escP attr (c :: t) = 38 :: (body ++ 59 :: escP attr t) := by rw [escP_cons, h4]; simp
     have hL : (pre ++ escP attr (c :: t) ++ post).take (pre.length + (escP attr (c :: t)).length) = pre ++ 38 :: (body ++ 59 :: escP attr t) := by
      rw [← hE, ← List.length_append, List.take_left]
     have href := refAt_ent pre body (escP attr t) h5
     rw [if_pos (by rw [h6]; exact h7), h6] at href
     have hlE : (escP attr (c :: t)).length = body.length + 2 + (escP attr t).length := by rw [hE]; simp; omega
     have hget : (pre ++ escP attr (c :: t) ++ post).getD pre.length 0 = 38 := by
      rw [hE, List.getD_eq_getElem?_getD, List.append_assoc, List.getElem?_append_right (Nat.le_refl _), Nat.sub_self]; rfl
     have ih := contF_esc attr v hv f t (pre ++ escB attr c) post (out ++ [c]) (by rw [hlE] at h; omega)
     rw [contF, if_pos (by rw [hlE]; omega), if_pos hget, hL, href]
     simp only [if_true, Int.toNat_natCast]
     rw [h8]
     rw [List.length_append, hlen, show pre ++ escB attr c ++ escP attr t ++ post = pre ++ escP attr (c :: t) ++ post by rw [escP_cons]; simp] at ih
     rw [hlE, show pre.length + body.length + 2 = pre.length + (body.length + 2) by omega, show pre.length + (body.length + 2 + (escP attr t).length) = pre.length + (body.length + 2) + (escP attr t).length by omega, ih]
     simp
  ·have hqs : escP attr (c :: t) = q ++ escP attr r := by rw [h1, escP_app, escP_plain attr q hq]
   have hlE : (escP attr (c :: t)).length = q.length + (escP attr r).length := by rw [hqs, List.length_append]
   have hr38 : escP attr r = [] ∨ ∃ t, escP attr r = 38 :: t := by
    rcases h2 with h2 | ⟨c', t', h2, h3⟩
    ·left; rw [h2]; rfl
    ·right
     rcases esc_cases attr c' with ⟨h4, _⟩ | ⟨body, h4, _⟩
     ·exact absurd h4 h3
     ·exact ⟨body ++ [59] ++ escP attr t', by rw [h2, escP_cons, h4]; simp⟩
   have hch : chunk (pre ++ escP attr (c :: t) ++ post) pre.length (pre.length + (escP attr (c :: t)).length) = q := by
    unfold chunk
    rw [List.append_assoc, List.drop_left, Nat.add_sub_cancel_left, List.take_left, hqs]
    exact amp_app q _ (fun x hx => (escB_one (hq x hx)).1) hr38
   have hget : (pre ++ escP attr (c :: t) ++ post).getD pre.length 0 ≠ 38 := by
    match q, h0 with
    | y :: q', _ =>
     rw [hqs, List.getD_eq_getElem?_getD, List.append_assoc, List.getElem?_append_right (Nat.le_refl _), Nat.sub_self]
     exact (escB_one (hq y List.mem_cons_self)).1
   have ih := contF_esc attr v hv f r (pre ++ q) post (out ++ q) (by rw [hlE] at h; omega)
   rw [contF, if_pos (by rw [hlE]; omega), if_neg hget, hch, linesP_plain q fun x hx => (escB_one (hq x hx)).2.1, spMap_plain v q fun hvt x hx => ⟨((escB_one (hq x hx)).2.2 (hv hvt)).1, ((escB_one (hq x hx)).2.2 (hv hvt)).2, (escB_one (hq x hx)).2.1⟩]
   rw [List.length_append, show pre ++ q ++ escP attr r ++ post = pre ++ escP attr (c :: t) ++ post by rw [hqs]; simp] at ih
   rw [hlE, ← Nat.add_assoc, ih, h1]
   simp
theorem contP_esc (attr v : Bool) (hv : v = true → attr = true) (l pre post : List UInt8) : contP (pre ++ escP attr l ++ post) pre.length (pre.length + (escP attr l).length) v = (l, ((pre.length + (escP attr l).length : Nat) : Int), 0) := by
 unfold contP
 have h := contF_esc attr v hv (pre.length + (escP attr l).length + 1) l pre post [] (by omega)
 rw [List.nil_append] at h
 exact h
theorem dec_ascii (s : ByteArray) (i : Nat) (c : UInt8) (h : s.data.toList[i]? = some c) (hc : c.toNat < 128) : (decP s i).2 = 1 := by
 have hi : i < s.size := by
  have := (List.getElem?_eq_some_iff.1 h).1
  simpa using this
 have hb : byteZ s i = (c.toNat : Int) := by
  rw [byteZ_at s i hi]
  have h2 : s[i] = c := by
   rw [List.getElem?_eq_getElem (by simpa using hi)] at h
   have := Option.some.inj h
   rw [← this]
   simp [ByteArray.getElem_eq_getElem_data]
  rw [h2]
 have := dec_hit s i 1 (by omega) (by omega) (by omega) ((hit1 s i (by omega)).2 (by omega))
 exact this.2
theorem spP_here (l : List UInt8) (i : Nat) (c : UInt8) (h : l[i]? = some c) (hc : spB c = false) : spP l i = i := by
 unfold spP
 obtain ⟨h3, h4⟩ := List.getElem?_eq_some_iff.1 h
 rw [List.drop_eq_getElem_cons h3, h4, List.takeWhile_cons, hc]; rfl
theorem spP_next (l : List UInt8) (i : Nat) (c : UInt8) (h : l[i]? = some c) (hc : spB c = true) : spP l i = spP l (i + 1) := by
 unfold spP
 obtain ⟨h3, h4⟩ := List.getElem?_eq_some_iff.1 h
 rw [List.drop_eq_getElem_cons h3, h4, List.takeWhile_cons, hc]
 simp only [if_true, List.length_cons]; omega
theorem quoAt_run (x : UInt8) : ∀ (q pre post : List UInt8), (∀ c ∈ q, c ≠ x ∧ c ≠ 60) → quoAt (pre ++ q ++ x :: post) x pre.length = pre.length + q.length := by
 intro q pre post h
 unfold quoAt
 rw [List.append_assoc, List.drop_left]
 congr 1
 have : (q ++ x :: post).takeWhile (fun c => c != x && c != 60) = q := by
  induction q with
  | nil => simp
  | cons y t ih =>
   have hy := h y List.mem_cons_self
   rw [List.cons_append, List.takeWhile_cons, if_pos (by simp [hy.1, hy.2]), ih fun c hc => h c (List.mem_cons_of_mem _ hc)]
 rw [this]
def okL (l : List UInt8) : Prop := (chk (oB l)).2 = 0
theorem oBa (a b : List UInt8) : oB (a ++ b) = oB a ++ oB b := by
 apply ByteArray.ext
 apply Array.toList_inj.1
 rw [ByteArray.data_append, Array.toList_append, oBl, oBl, oBl]
theorem okL_app (a b : List UInt8) (ha : okL a) : okL (a ++ b) ↔ okL b := by
 unfold okL
 rw [oBa, chk_append _ _ ha]
theorem okL_nil : okL [] := by
 unfold okL chk
 rw [chkAt_end _ _ (by rw [oBz]; exact Nat.le_refl _)]
theorem okL_one (c : UInt8) (hc : c.toNat < 128) (h : isCharB (c.toNat : Int) = true) : okL [c] := by
 have hz : (oB [c]).size = 1 := oBz [c]
 have hb : byteZ (oB [c]) 0 = (c.toNat : Int) := by
  rw [byteZ_at _ 0 (by omega)]; rfl
 have hd := dec_hit (oB [c]) 0 1 (by omega) (by omega) (by omega) ((hit1 _ 0 (by omega)).2 (by omega))
 rw [acc1, hb] at hd
 unfold okL chk
 rw [chkAt_eq _ 0 (by omega), hd.2, if_neg (by decide), hd.1, if_pos h, chkAt_end _ _ (by omega)]
theorem okL_ascii : ∀ l : List UInt8, (l.all fun c => decide (c.toNat < 128) && isCharB (c.toNat : Int)) = true → okL l
 | [], _ => okL_nil
 | c :: t, h => by
  rw [List.all_cons, Bool.and_eq_true, Bool.and_eq_true, decide_eq_true_eq] at h
  rw [show c :: t = [c] ++ t from rfl, okL_app _ _ (okL_one c h.1.1 h.1.2)]
  exact okL_ascii t h.2
theorem esc_high : ∀ n : Fin 256, 128 ≤ n.val → escB false (UInt8.ofNat n.val) = [UInt8.ofNat n.val] ∧ escB true (UInt8.ofNat n.val) = [UInt8.ofNat n.val] := by decide
theorem esc_low : ∀ n : Fin 128, isCharB (n.val : Int) = true → ((escB false (UInt8.ofNat n.val)).all fun c => decide (c.toNat < 128) && isCharB (c.toNat : Int)) = true ∧ ((escB true (UInt8.ofNat n.val)).all fun c => decide (c.toNat < 128) && isCharB (c.toNat : Int)) = true := by decide
theorem escB_high (attr : Bool) (c : UInt8) (h : 128 ≤ c.toNat) : escB attr c = [c] := by
 have := esc_high ⟨c.toNat, c.toNat_lt⟩ h
 rw [UInt8.ofNat_toNat] at this
 cases attr
 ·exact this.1
 ·exact this.2
theorem escB_low (attr : Bool) (c : UInt8) (hc : c.toNat < 128) (h : isCharB (c.toNat : Int) = true) : okL (escB attr c) := by
 have := esc_low ⟨c.toNat, hc⟩ h
 simp only [UInt8.ofNat_toNat] at this
 cases attr
 ·exact okL_ascii _ this.1
 ·exact okL_ascii _ this.2
theorem byteZ_get (l : List UInt8) (i : Nat) (h : i < l.length) : byteZ (oB l) i = ((l[i]).toNat : Int) := by
 rw [byteZ_at _ i (by rw [oBz]; exact h)]
 simp [oB, ByteArray.getElem_eq_getElem_data]
theorem okL_head (c : UInt8) (t : List UInt8) (h : okL (c :: t)) : ∃ a b, c :: t = a ++ b ∧ 0 < a.length ∧ okL a ∧ okL b ∧ ((a = [c] ∧ c.toNat < 128 ∧ isCharB (c.toNat : Int) = true) ∨ ∀ x ∈ a, 128 ≤ x.toNat) := by
 have hz : (oB (c :: t)).size = t.length + 1 := oBz (c :: t)
 have h' := h
 unfold okL chk at h'
 rw [chkAt_eq _ 0 (by omega)] at h'
 have h0 : (decP (oB (c :: t)) 0).2 ≠ 0 := by
  intro e; rw [if_pos e] at h'; cases h'
 rw [if_neg h0] at h'
 have hch : isCharB ((decP (oB (c :: t)) 0).1 : Int) = true := by
  cases hb : isCharB ((decP (oB (c :: t)) 0).1 : Int)
  ·rw [hb] at h'; cases h'
  ·rfl
 obtain ⟨k, h1, h2, h3, hb⟩ : ∃ k, 1 ≤ k ∧ k ≤ 4 ∧ 0 + k ≤ (oB (c :: t)).size ∧ hitB (oB (c :: t)) 0 k = true := by
  apply Classical.byContradiction
  intro hno
  apply h0
  rw [dec_miss _ 0 (by omega) fun k h1 h2 h3 => by
   cases hb : hitB (oB (c :: t)) 0 k
   ·rfl
   ·exact absurd ⟨k, h1, h2, h3, hb⟩ hno]
 have hd := dec_hit _ 0 k h1 h2 h3 hb
 rw [hd.1] at hch
 refine ⟨(c :: t).take k, (c :: t).drop k, (List.take_append_drop k _).symm, by rw [List.length_take, List.length_cons]; omega, ?_⟩
 have hal : ((c :: t).take k).length = k := by rw [List.length_take, List.length_cons]; omega
 have hsplit : oB (c :: t) = oB ((c :: t).take k) ++ oB ((c :: t).drop k) := by rw [← oBa, List.take_append_drop]
 have hza : (oB ((c :: t).take k)).size = k := by rw [oBz, hal]
 have hba : hitB (oB ((c :: t).take k)) 0 k = true := by
  rw [hsplit, hit_left _ _ 0 k h1 (by omega)] at hb; exact hb
 have hda := dec_hit _ 0 k h1 h2 (by omega) hba
 have hacc : accZ (oB (c :: t)) 0 k (k - 1) = accZ (oB ((c :: t).take k)) 0 k (k - 1) := by
  rw [hsplit, accZ_left _ _ 0 k (k - 1) (by omega)]
 have hoka : okL ((c :: t).take k) := by
  unfold okL chk
  rw [chkAt_eq _ 0 (by omega), hda.2, if_neg (by omega), hda.1, ← hacc, if_pos hch, chkAt_end _ _ (by omega)]
 have hokb : okL ((c :: t).drop k) := by
  have := h
  rw [← List.take_append_drop k (c :: t)] at this
  exact (okL_app _ _ hoka).1 this
 refine ⟨hoka, hokb, ?_⟩
 have hge : ∀ (i : Nat) (hi : i < k), 128 ≤ byteZ (oB ((c :: t).take k)) i → 128 ≤ (((c :: t).take k)[i]'(by omega)).toNat := by
  intro i hi hh
  rw [byteZ_get _ i (by omega)] at hh
  omega
 rcases (by omega : k = 1 ∨ k = 2 ∨ k = 3 ∨ k = 4) with rfl | rfl | rfl | rfl
 ·left
  have h5 := (hit1 _ 0 (by omega)).1 hb
  rw [byteZ_get (c :: t) 0 (by rw [List.length_cons]; omega)] at h5
  rw [acc1, byteZ_get (c :: t) 0 (by rw [List.length_cons]; omega)] at hch
  exact ⟨rfl, by have h6 : (c.toNat : Int) < 128 := h5; omega, hch⟩
 ·right
  have h5 := (hit2 _ 0 (by omega)).1 hba
  intro x hx
  obtain ⟨i, hi, rfl⟩ := List.getElem_of_mem hx
  rw [hal] at hi
  refine hge i hi ?_
  have g0 := byteZ_lt (oB ((c :: t).take 2)) 0
  rcases (by omega : i = 0 ∨ i = 1) with rfl | rfl
  ·omega
  ·have := h5.2.1; rw [Nat.zero_add] at this; omega
 ·right
  have h5 := (hit3 _ 0 (by omega)).1 hba
  intro x hx
  obtain ⟨i, hi, rfl⟩ := List.getElem_of_mem hx
  rw [hal] at hi
  refine hge i hi ?_
  rcases (by omega : i = 0 ∨ i = 1 ∨ i = 2) with rfl | rfl | rfl
  ·have := h5.1; omega
  ·have := h5.2.1; rw [Nat.zero_add] at this; omega
  ·have := h5.2.2.1; rw [Nat.zero_add] at this; omega
 ·right
  have h5 := (hit4 _ 0 (by omega)).1 hba
  intro x hx
  obtain ⟨i, hi, rfl⟩ := List.getElem_of_mem hx
  rw [hal] at hi
  refine hge i hi ?_
  rcases (by omega : i = 0 ∨ i = 1 ∨ i = 2 ∨ i = 3) with rfl | rfl | rfl | rfl
  ·have := h5.1; omega
  ·have := h5.2.1; rw [Nat.zero_add] at this; omega
  ·have := h5.2.2.1; rw [Nat.zero_add] at this; omega
  ·have := h5.2.2.2.1; rw [Nat.zero_add] at this; omega
theorem okL_esc (attr : Bool) : ∀ (f : Nat) (l : List UInt8), l.length ≤ f → okL l → okL (escP attr l)
 | _, [], _, _ => okL_nil
 | 0, c :: t, h, _ => by rw [List.length_cons] at h; omega
 | f + 1, c :: t, h, hl => by
  obtain ⟨a, b, h1, h2, h3, h4, h5⟩ := okL_head c t hl
  have hlen : b.length ≤ f := by
   have := congrArg List.length h1
   rw [List.length_append] at this
   omega
  have ih := okL_esc attr f b hlen h4
  rw [h1, escP_app]
  refine (okL_app _ _ ?_).2 ih
  rcases h5 with ⟨rfl, h6, h7⟩ | h5
  ·rw [escP_cons, show escP attr [] = [] from rfl, List.append_nil]
   exact escB_low attr c h6 h7
  ·rw [escP_plain attr a fun x hx => escB_high attr x (h5 x hx)]
   exact h3
theorem hasP_no {l : List UInt8} {i : Nat} {c d : UInt8} (t : List UInt8) (h : l[i]? = some c) (hne : c ≠ d) : hasP l (i : Int) (d :: t) = false := by
 obtain ⟨h3, h4⟩ := List.getElem?_eq_some_iff.1 h
 unfold hasP
 rw [decide_eq_true (by omega), Bool.true_and, Int.toNat_natCast, List.drop_eq_getElem_cons h3, h4, List.isPrefixOf]
 simp [Ne.symm hne]
theorem hasP_no2 {l : List UInt8} {i : Nat} {c d : UInt8} (c' d' : UInt8) (t : List UInt8) (h : l[i]? = some c) (h' : l[i + 1]? = some d) (hne : d ≠ d') : hasP l (i : Int) (c' :: d' :: t) = false := by
 obtain ⟨h3, h4⟩ := List.getElem?_eq_some_iff.1 h
 obtain ⟨h5, h6⟩ := List.getElem?_eq_some_iff.1 h'
 unfold hasP
 rw [decide_eq_true (by omega), Bool.true_and, Int.toNat_natCast, List.drop_eq_getElem_cons h3, List.drop_eq_getElem_cons h5, h4, h6, List.isPrefixOf, List.isPrefixOf]
 simp [Ne.symm hne]
theorem hasP_yes1 {l : List UInt8} {i : Nat} {c : UInt8} (h : l[i]? = some c) : hasP l (i : Int) [c] = true := by
 obtain ⟨h3, h4⟩ := List.getElem?_eq_some_iff.1 h
 unfold hasP
 rw [decide_eq_true (by omega), Bool.true_and, Int.toNat_natCast, List.drop_eq_getElem_cons h3, h4, List.isPrefixOf]
 simp
theorem hasP_yes2 {l : List UInt8} {i : Nat} {c d : UInt8} (h : l[i]? = some c) (h' : l[i + 1]? = some d) : hasP l (i : Int) [c, d] = true := by
 obtain ⟨h3, h4⟩ := List.getElem?_eq_some_iff.1 h
 obtain ⟨h5, h6⟩ := List.getElem?_eq_some_iff.1 h'
 unfold hasP
 rw [decide_eq_true (by omega), Bool.true_and, Int.toNat_natCast, List.drop_eq_getElem_cons h3, List.drop_eq_getElem_cons h5, h4, h6, List.isPrefixOf, List.isPrefixOf]
 simp
theorem at_len (pre : List UInt8) (c : UInt8) (r : List UInt8) (n : Nat) (h : n = pre.length) : (pre ++ c :: r)[n]? = some c := by
 rw [h, List.getElem?_append_right (Nat.le_refl _), Nat.sub_self]; rfl
theorem next_lt : ∀ (F pre r : List UInt8), 60 ∉ F → nextP (pre ++ (F ++ 60 :: r)) pre.length [60] = ((pre.length + F.length : Nat) : Int)
 | [], pre, r, _ => by
  rw [List.nil_append, nextP_hit _ _ _ (by simp) (hasP_yes1 (c := 60) (at_len pre 60 r _ rfl))]; rfl
 | c :: t, pre, r, h => by
  have hc : (pre ++ (c :: t ++ 60 :: r))[pre.length]? = some c := at_len pre c (t ++ 60 :: r) _ rfl
  rw [nextP_miss _ _ _ (by simp) (hasP_no [] hc fun e => h (e ▸ List.mem_cons_self))]
  have ih := next_lt t (pre ++ [c]) r fun hm => h (List.mem_cons_of_mem _ hm)
  rw [List.length_append, show pre ++ [c] ++ (t ++ 60 :: r) = pre ++ (c :: t ++ 60 :: r) by simp, show pre.length + [c].length = pre.length + 1 from rfl] at ih
  rw [ih, List.length_cons]
  omega
theorem tok_step (s : ByteArray) (f a : Nat) (acc : List TokD) (h : a < s.size) {t : TokD} {p : Int} (hc : consP s a = (t, p, 0)) (hk : t.kind ≠ 3 ∨ t.tx ≠ []) : tokGo s (f + 1) a acc = tokGo s f p.toNat (acc ++ [t]) := by
 rw [tokGo, if_pos h, hc]
 exact (if_neg (by simp)).trans (by rw [if_pos hk])
theorem tok_stop (s : ByteArray) (f a : Nat) (acc : List TokD) (h : s.size ≤ a) : tokGo s (f + 1) a acc = (acc, (s.size : Int), 0) := by
 rw [tokGo, if_neg (by omega)]
theorem okL_of (s : ByteArray) (h : (chk s).2 = 0) : okL s.data.toList := by unfold okL; rw [oBd]; exact h
end
section
open Go.RowKit
theorem bapp (s t : ByteArray) : (s ++ t).data.toList = s.data.toList ++ t.data.toList := by simp [ByteArray.data_append]
theorem bsl (s : ByteArray) : s.data.toList.length = s.size := by simp
theorem drop_right (l m : List UInt8) (i : Nat) : (l ++ m).drop (l.length + i) = m.drop i := by rw [← List.drop_drop, List.drop_left]
theorem take_right (l m : List UInt8) (j : Nat) : (l ++ m).take (l.length + j) = l ++ m.take j := by
 rw [List.take_append, List.take_of_length_le (by omega), show l.length + j - l.length = j by omega]
theorem getD_right (l m : List UInt8) (i : Nat) : (l ++ m).getD (l.length + i) 0 = m.getD i 0 := by
 rw [List.getD_eq_getElem?_getD, List.getD_eq_getElem?_getD, List.getElem?_append_right (by omega), show l.length + i - l.length = i by omega]
theorem hasP_right (l m : List UInt8) (i : Nat) (x : List UInt8) : hasP (l ++ m) ((l.length + i : Nat) : Int) x = hasP m (i : Int) x := by
 unfold hasP
 rw [Int.toNat_natCast, Int.toNat_natCast, drop_right, decide_eq_true (by omega), decide_eq_true (by omega)]
theorem spP_right (l m : List UInt8) (i : Nat) : spP (l ++ m) (l.length + i) = l.length + spP m i := by
 unfold spP; rw [drop_right]; omega
theorem index_ge : ∀ l t : List UInt8, Lib.index l t = -1 ∨ 0 ≤ Lib.index l t
 | [], t => by rw [Lib.index]; split <;> simp
 | b :: l, t => by
  rw [Lib.index]
  split
  ·simp
  ·split
   ·simp
   ·rename_i h
    rcases index_ge l t with h1 | h1
    ·rw [h1] at h; simp at h
    ·right; omega
theorem nextP_right (l m : List UInt8) (i : Nat) (x : List UInt8) : nextP (l ++ m) (l.length + i) x = if nextP m i x = -1 then -1 else (l.length : Int) + nextP m i x := by
 unfold nextP
 rw [drop_right]
 rcases index_ge (m.drop i) x with h | h
 ·rw [if_pos h, if_pos h, if_pos rfl]
 ·rw [if_neg (by omega), if_neg (by omega), if_neg (by omega)]
  omega
theorem misP_right (d n : Nat) (i k : Int) : misP (d + n) ((d : Int) + i) ((d : Int) + k) = ((d : Int) + (misP n i k).1, (misP n i k).2) := by
 unfold misP
 by_cases h : (n : Int) ≤ k
 ·rw [if_pos h, if_pos (by omega)]
 ·rw [if_neg h, if_neg (by omega)]
theorem quoAt_right (l m : List UInt8) (x : UInt8) (e : Nat) : quoAt (l ++ m) x (l.length + e) = l.length + quoAt m x e := by
 unfold quoAt; rw [drop_right]; omega
theorem refAt_right (l m : List UInt8) (i : Nat) : refAt (l ++ m) (l.length + i) = if (refAt m i).2.2 = 0 then ((refAt m i).1, (l.length : Int) + (refAt m i).2.1, 0) else refAt m i := by
 unfold refAt
 rw [show l.length + i + 1 = l.length + (i + 1) by omega, drop_right, List.length_append]
 by_cases h1 : i + 1 + (tw (m.drop (i + 1))).length < m.length
 ·rw [if_pos (show l.length + (i + 1) + (tw (m.drop (i + 1))).length < l.length + m.length by omega), if_pos h1]
  by_cases h2 : isCharB (refNum (tw (m.drop (i + 1)))) = true
  ·rw [if_pos h2, if_pos h2, if_pos rfl, show ((l.length + (i + 1) + (tw (m.drop (i + 1))).length + 1 : Nat) : Int) = (l.length : Int) + ((i + 1 + (tw (m.drop (i + 1))).length + 1 : Nat) : Int) by omega]
  ·rw [if_neg h2, if_neg h2, if_neg (by decide)]
 ·rw [if_neg (show ¬ l.length + (i + 1) + (tw (m.drop (i + 1))).length < l.length + m.length by omega), if_neg h1, if_neg (by decide)]
theorem chunk_right (l m : List UInt8) (i j : Nat) : chunk (l ++ m) (l.length + i) (l.length + j) = chunk m i j := by
 unfold chunk
 rw [drop_right, show l.length + j - (l.length + i) = j - i by omega]
theorem chunk_pos (l : List UInt8) (i j : Nat) (h : i < j) (hj : j ≤ l.length) (hc : ¬ l.getD i 0 = 38) : 0 < (chunk l i j).length := by
 have hi : i < l.length := by omega
 have hg : l.getD i 0 = l[i] := by rw [List.getD_eq_getElem?_getD, List.getElem?_eq_getElem hi]; rfl
 unfold chunk
 obtain ⟨n, hn⟩ : ∃ n, j - i = n + 1 := ⟨j - i - 1, by omega⟩
 rw [List.drop_eq_getElem_cons hi, hn, List.take_succ_cons, amp_cons _ _ (by rw [← hg]; exact hc), List.length_cons]
 omega
theorem contF_more (l : List UInt8) (j : Nat) (v : Bool) (hj : j ≤ l.length) : ∀ f g i out, j - i < f → j - i < g → contF l j v f i out = contF l j v g i out
 | 0, _, _, _, h, _ => absurd h (by omega)
 | _ + 1, 0, _, _, _, h => absurd h (by omega)
 | f + 1, g + 1, i, out, h, h' => by
  rw [contF, contF]
  by_cases hi : i < j
  ·rw [if_pos hi, if_pos hi]
   by_cases hc : l.getD i 0 = 38
   ·rw [if_pos hc, if_pos hc]
    rcases refAt_cases (l.take j) i with hr | ⟨r, k, hr, h1, h2, _⟩
    ·rw [hr]; rfl
    ·rw [hr]
     simp only [if_true, Int.toNat_natCast]
     exact contF_more l j v hj f g k _ (by omega) (by omega)
   ·rw [if_neg hc, if_neg hc]
    have := chunk_pos l i j hi hj hc
    exact contF_more l j v hj f g _ _ (by omega) (by omega)
  ·rw [if_neg hi, if_neg hi]
theorem contF_right (l m : List UInt8) (j : Nat) (v : Bool) (hj : j ≤ m.length) : ∀ f i out, j - i < f → contF (l ++ m) (l.length + j) v f (l.length + i) out = ((contF m j v f i out).1, (l.length : Int) + (contF m j v f i out).2.1, (contF m j v f i out).2.2)
 | 0, _, _, h => absurd h (by omega)
 | f + 1, i, out, h => by
  have hJ : ((l.length + j : Nat) : Int) = (l.length : Int) + (j : Int) := by omega
  rw [contF, contF]
  by_cases hi : i < j
  ·rw [if_pos (show l.length + i < l.length + j by omega), if_pos hi, getD_right, take_right, refAt_right, chunk_right]
   by_cases hc : m.getD i 0 = 38
   ·rw [if_pos hc, if_pos hc]
    rcases refAt_cases (m.take j) i with hr | ⟨r, k, hr, h1, h2, _⟩
    ·have h12 : ¬ ((12 : Int) = 0) := by decide
     rw [hr]
     simp only [if_neg h12]
     rw [show ((l.length + i : Nat) : Int) = (l.length : Int) + (i : Int) by omega]
    ·rw [hr]
     simp only [if_true, Int.toNat_natCast]
     rw [show ((l.length : Int) + (k : Int)).toNat = l.length + k by omega]
     exact contF_right l m j v hj f k (out ++ eb r) (by omega)
   ·rw [if_neg hc, if_neg hc, Nat.add_assoc]
    have := chunk_pos m i j hi hj hc
    exact contF_right l m j v hj f (i + (chunk m i j).length) (out ++ spMap v (linesP (chunk m i j))) (by omega)
  ·rw [if_neg (show ¬ l.length + i < l.length + j by omega), if_neg hi, hJ]
theorem contP_right (l m : List UInt8) (i j : Nat) (v : Bool) (hj : j ≤ m.length) : contP (l ++ m) (l.length + i) (l.length + j) v = ((contP m i j v).1, (l.length : Int) + (contP m i j v).2.1, (contP m i j v).2.2) := by
 unfold contP
 rw [contF_more (l ++ m) (l.length + j) v (by rw [List.length_append]; omega) _ (j + 1) _ _ (by omega) (by omega)]
 exact contF_right l m j v hj (j + 1) i [] (by omega)
theorem ext_right (p t : ByteArray) (i k : Nat) : (p ++ t).extract (p.size + i) (p.size + k) = t.extract i k := by
 rw [kext, kext, bapp, ← bsl p, drop_right, show p.data.toList.length + k - (p.data.toList.length + i) = k - i by omega]
theorem nmF_more (s : ByteArray) (i : Nat) : ∀ f g k, s.size - k < f → s.size - k < g → nmF s i f k = nmF s i g k
 | 0, _, _, h, _ => absurd h (by omega)
 | _ + 1, 0, _, _, h => absurd h (by omega)
 | f + 1, g + 1, k, h, h' => by
  rw [nmF, nmF]
  by_cases hk : k < s.size
  ·rw [if_pos hk, if_pos hk]
   by_cases h0 : (decP s k).2 = 0
   ·rw [if_pos h0, if_pos h0]
   ·rw [if_neg h0, if_neg h0]
    by_cases hq : isQB (s.extract i (k + (decP s k).2)) = true
    ·rw [if_pos hq, if_pos hq]
     exact nmF_more s i f g _ (by omega) (by omega)
    ·rw [if_neg hq, if_neg hq]
  ·rw [if_neg hk, if_neg hk]
theorem nmF_right (p t : ByteArray) (i : Nat) : ∀ f k, nmF (p ++ t) (p.size + i) f (p.size + k) = p.size + nmF t i f k
 | 0, k => rfl
 | f + 1, k => by
  rw [nmF, nmF, dec_right]
  have hz : (p ++ t).size = p.size + t.size := ByteArray.size_append
  by_cases hk : k < t.size
  ·rw [if_pos (by omega), if_pos hk]
   by_cases h0 : (decP t k).2 = 0
   ·rw [if_pos h0, if_pos h0]
   ·rw [if_neg h0, if_neg h0, Nat.add_assoc, ext_right]
    by_cases hq : isQB (t.extract i (k + (decP t k).2)) = true
    ·rw [if_pos hq, if_pos hq]
     exact nmF_right p t i f _
    ·rw [if_neg hq, if_neg hq]
  ·rw [if_neg (by omega), if_neg hk]
theorem nmP_right (p t : ByteArray) (i : Nat) : nmP (p ++ t) (p.size + i) = p.size + nmP t i := by
 have hz : (p ++ t).size = p.size + t.size := ByteArray.size_append
 unfold nmP
 rw [nmF_more (p ++ t) (p.size + i) _ (t.size + 1) _ (by omega) (by omega), nmF_right]
def shI (d : Nat) {α : Type} (x : α × Int × Int) : α × Int × Int := (x.1, (d : Int) + x.2.1, x.2.2)
theorem misP_shI {α : Type} (d n : Nat) (x : α) (i k : Int) : (x, misP (d + n) ((d : Int) + i) ((d : Int) + k)) = shI d (x, misP n i k) := by rw [misP_right]; rfl
theorem attr4_right (p t : ByteArray) (i : Nat) (N : List UInt8) (e : Nat) (_he : e ≤ t.size) (c : List UInt8 × Int × Int) : attr4 (p ++ t) (p.size + i) N (p.size + e) (shI p.size c) = shI p.size (attr4 t i N e c) := by
 have hz : (p ++ t).size = p.size + t.size := ByteArray.size_append
 unfold attr4
 rw [bapp, ← bsl p, getD_right, bsl p, hz]
 by_cases h1 : c.2.2 ≠ 0
 ·rw [if_pos (show (shI p.size c).2.2 ≠ 0 from h1), if_pos h1]; rfl
 ·rw [if_neg (show ¬ (shI p.size c).2.2 ≠ 0 from h1), if_neg h1]
  by_cases h2 : e = t.size
  ·rw [if_pos (by omega), if_pos h2]
   unfold shI
   simp only
   rw [show ((p.size + i : Nat) : Int) = (p.size : Int) + (i : Int) by omega]
  ·rw [if_neg (by omega), if_neg h2]
   by_cases h3 : t.data.toList.getD e 0 = 60
   ·rw [if_pos h3, if_pos h3]
    unfold shI
    simp only
    rw [show ((p.size + e : Nat) : Int) = (p.size : Int) + (e : Int) by omega]
   ·rw [if_neg h3, if_neg h3]
    unfold shI
    simp only
    rw [show ((p.size + e : Nat) : Int) + 1 = (p.size : Int) + ((e : Int) + 1) by omega]
theorem quoAt_le (l : List UInt8) (x : UInt8) (e : Nat) (h : e ≤ l.length) : e ≤ quoAt l x e ∧ quoAt l x e ≤ l.length := by
 unfold quoAt
 have := (List.takeWhile_prefix (fun c => c != x && c != 60) (l := l.drop e)).length_le
 rw [List.length_drop] at this
 omega
theorem attr3_right (p t : ByteArray) (i : Nat) (N : List UInt8) (m e : Nat) (he : e ≤ t.size) : attr3 (p ++ t) (p.size + i) N (p.size + m) (p.size + e) = shI p.size (attr3 t i N m e) := by
 unfold attr3
 have := contP_right p.data.toList t.data.toList (m + 1) e true (by rw [bsl]; exact he)
 rw [bsl] at this
 rw [bapp, Nat.add_assoc, this]
 exact attr4_right p t i N e he _
theorem attr2_right (p t : ByteArray) (i : Nat) (N : List UInt8) (m : Nat) : attr2 (p ++ t) (p.size + i) N (p.size + m) = shI p.size (attr2 t i N m) := by
 have hz : (p ++ t).size = p.size + t.size := ByteArray.size_append
 unfold attr2
 have e1 := hasP_right p.data.toList t.data.toList m [34]
 have e2 := hasP_right p.data.toList t.data.toList m [39]
 rw [bsl] at e1 e2
 have f1 := quoAt_right p.data.toList t.data.toList 34 (m + 1)
 have f2 := quoAt_right p.data.toList t.data.toList 39 (m + 1)
 rw [bsl] at f1 f2
 rw [bapp, e1, e2, Nat.add_assoc, f1, f2]
 by_cases h1 : hasP t.data.toList (m : Int) [34] = true
 ·obtain ⟨hm, _⟩ := hasP_one _ _ _ h1
  rw [if_pos h1, if_pos h1]
  have := quoAt_le t.data.toList 34 (m + 1) (by omega)
  rw [bsl] at this
  exact attr3_right p t i N m _ this.2
 ·rw [if_neg h1, if_neg h1]
  by_cases h2 : hasP t.data.toList (m : Int) [39] = true
  ·obtain ⟨hm, _⟩ := hasP_one _ _ _ h2
   rw [if_pos h2, if_pos h2]
   have := quoAt_le t.data.toList 39 (m + 1) (by omega)
   rw [bsl] at this
   exact attr3_right p t i N m _ this.2
  ·rw [if_neg h2, if_neg h2, hz, show ((p.size + i : Nat) : Int) = (p.size : Int) + (i : Int) by omega, show ((p.size + m : Nat) : Int) = (p.size : Int) + (m : Int) by omega]
   exact misP_shI _ _ _ _ _
theorem attr1_right (p t : ByteArray) (i : Nat) (N : List UInt8) (k : Nat) : attr1 (p ++ t) (p.size + i) N (p.size + k) = shI p.size (attr1 t i N k) := by
 have hz : (p ++ t).size = p.size + t.size := ByteArray.size_append
 unfold attr1
 have e1 := hasP_right p.data.toList t.data.toList k [61]
 have e2 := spP_right p.data.toList t.data.toList (k + 1)
 rw [bsl] at e1 e2
 rw [bapp, e1, Nat.add_assoc, e2]
 by_cases h1 : hasP t.data.toList (k : Int) [61] = true
 ·rw [if_pos h1, if_pos h1]
  exact attr2_right p t i N _
 ·rw [if_neg h1, if_neg h1, hz, show ((p.size + i : Nat) : Int) = (p.size : Int) + (i : Int) by omega, show ((p.size + k : Nat) : Int) = (p.size : Int) + (k : Int) by omega]
  exact misP_shI _ _ _ _ _
theorem attrP_right (p t : ByteArray) (i a : Nat) : attrP (p ++ t) (p.size + i) (p.size + a) = shI p.size (attrP t i a) := by
 have hz : (p ++ t).size = p.size + t.size := ByteArray.size_append
 unfold attrP
 have e1 := spP_right p.data.toList t.data.toList (nmP t a)
 have e2 := drop_right p.data.toList t.data.toList a
 rw [bsl] at e1 e2
 rw [bapp, nmP_right, e1, e2, show p.size + nmP t a - (p.size + a) = nmP t a - a by omega]
 by_cases h1 : nmP t a = a
 ·rw [if_pos (by omega), if_pos h1, hz, show ((p.size + i : Nat) : Int) = (p.size : Int) + (i : Int) by omega, show ((p.size + a : Nat) : Int) = (p.size : Int) + (a : Int) by omega]
  exact misP_shI _ _ _ _ _
 ·rw [if_neg (by omega), if_neg h1]
  exact attr1_right p t i _ _
def shA (d : Nat) (x : AttrD) : AttrD := { x with at' := (d : Int) + x.at' }
def shR (d : Nat) (R : StartR) : StartR := ⟨R.nm, R.al.map (shA d), R.em, (d : Int) + R.p1, R.p2⟩
theorem startGo_right (p t : ByteArray) (i : Nat) (N : List UInt8) : ∀ f a acc, t.size - a < f → a ≤ t.size → startGo (p ++ t) (p.size + i) N f (p.size + a) (acc.map (shA p.size)) = shR p.size (startGo t i N f a acc)
 | 0, _, _, h, _ => absurd h (by omega)
 | f + 1, a, acc, h, ha => by
  have hz : (p ++ t).size = p.size + t.size := ByteArray.size_append
  have e1 := spP_right p.data.toList t.data.toList a
  have e2 := hasP_right p.data.toList t.data.toList (spP t.data.toList a) [62]
  have e3 := hasP_right p.data.toList t.data.toList (spP t.data.toList a) [47, 62]
  have e4 := hasP_right p.data.toList t.data.toList (spP t.data.toList a) [47]
  rw [bsl] at e1 e2 e3 e4
  have e5 := attrP_right p t i (spP t.data.toList a)
  have hsb := spP_le t.data.toList a (by rw [bsl]; exact ha)
  rw [bsl] at hsb
  have hi : ((p.size + i : Nat) : Int) = (p.size : Int) + (i : Int) := by omega
  have hx : ((p.size + spP t.data.toList a : Nat) : Int) = (p.size : Int) + (spP t.data.toList a : Nat) := by omega
  rw [startGo, startGo, bapp, e1, e2, e3, e4, e5, hz]
  by_cases h1 : hasP t.data.toList (spP t.data.toList a : Nat) [62] = true
  ·rw [if_pos h1, if_pos h1]
   unfold shR
   rw [hx, Int.add_assoc]
  rw [if_neg h1, if_neg h1]
  by_cases h2 : hasP t.data.toList (spP t.data.toList a : Nat) [47, 62] = true
  ·rw [if_pos h2, if_pos h2]
   unfold shR
   rw [hx, Int.add_assoc]
  rw [if_neg h2, if_neg h2]
  by_cases h3 : hasP t.data.toList (spP t.data.toList a : Nat) [47] = true
  ·rw [if_pos h3, if_pos h3, hi, hx, Int.add_assoc, misP_right]; rfl
  rw [if_neg h3, if_neg h3]
  by_cases h4 : spP t.data.toList a = a
  ·rw [if_pos (by omega), if_pos h4, hi, show ((p.size + a : Nat) : Int) = (p.size : Int) + (a : Int) by omega, misP_right]; rfl
  rw [if_neg (by omega), if_neg h4]
  by_cases h5 : (attrP t i (spP t.data.toList a)).2.2 ≠ 0
  ·rw [if_pos (show (shI p.size (attrP t i (spP t.data.toList a))).2.2 ≠ 0 from h5), if_pos h5]; rfl
  rw [if_neg (show ¬ (shI p.size (attrP t i (spP t.data.toList a))).2.2 ≠ 0 from h5), if_neg h5]
  have hex : (∃ x ∈ acc.map (shA p.size), x.nm = oB (shI p.size (attrP t i (spP t.data.toList a))).1.1) ↔ ∃ x ∈ acc, x.nm = oB (attrP t i (spP t.data.toList a)).1.1 := by
   constructor
   ·rintro ⟨x, hx, he⟩
    obtain ⟨y, hy, rfl⟩ := List.mem_map.1 hx
    exact ⟨y, hy, he⟩
   ·rintro ⟨x, hx, he⟩
    exact ⟨shA p.size x, List.mem_map.2 ⟨x, hx, rfl⟩, he⟩
  by_cases h6 : ∃ x ∈ acc, x.nm = oB (attrP t i (spP t.data.toList a)).1.1
  ·rw [if_pos (hex.2 h6), if_pos h6]
   unfold shR
   rw [hx]
  rw [if_neg (fun q => h6 (hex.1 q)), if_neg h6]
  obtain ⟨z, hzz, hz1, hz2⟩ := attrP_ok t i (spP t.data.toList a) hsb.2 (by simpa using h5)
  have ih := startGo_right p t i N f z (acc ++ [attrOf (attrP t i (spP t.data.toList a)).1.1 (attrP t i (spP t.data.toList a)).1.2 (spP t.data.toList a)]) (by omega) hz2
  rw [show (shI p.size (attrP t i (spP t.data.toList a))).2.1.toNat = p.size + z by unfold shI; simp only; rw [hzz]; omega, hzz, Int.toNat_natCast, ← ih, List.map_append]
  simp only [List.map_cons, List.map_nil, shA, attrOf, shI]
  rw [hx]
theorem startGo_more (s : ByteArray) (i : Nat) (N : List UInt8) : ∀ f g a acc, s.size - a < f → s.size - a < g → a ≤ s.size → startGo s i N f a acc = startGo s i N g a acc
 | 0, _, _, _, h, _, _ => absurd h (by omega)
 | _ + 1, 0, _, _, _, h, _ => absurd h (by omega)
 | f + 1, g + 1, a, acc, h, h', ha => by
  have hsb := spP_le s.data.toList a (by rw [bsl]; exact ha)
  rw [bsl] at hsb
  rw [startGo, startGo]
  by_cases h5 : (attrP s i (spP s.data.toList a)).2.2 ≠ 0
  ·rw [if_pos h5, if_pos h5]
  rw [if_neg h5, if_neg h5]
  obtain ⟨z, hzz, hz1, hz2⟩ := attrP_ok s i (spP s.data.toList a) hsb.2 (by simpa using h5)
  rw [hzz, Int.toNat_natCast, startGo_more s i N f g z _ (by omega) (by omega) hz2]
theorem startP_right (p t : ByteArray) (i : Nat) (hi : i + 1 ≤ t.size) : startP (p ++ t) (p.size + i) = shR p.size (startP t i) := by
 have hz : (p ++ t).size = p.size + t.size := ByteArray.size_append
 have hb := nmP_le t (i + 1) hi
 have e2 := drop_right p.data.toList t.data.toList (i + 1)
 rw [bsl] at e2
 unfold startP
 rw [Nat.add_assoc, nmP_right, bapp, e2, show p.size + nmP t (i + 1) - (p.size + (i + 1)) = nmP t (i + 1) - (i + 1) by omega]
 by_cases h1 : nmP t (i + 1) = i + 1
 ·rw [if_pos (by omega), if_pos h1, hz, show ((p.size + i : Nat) : Int) = (p.size : Int) + (i : Int) by omega, show ((p.size + (i + 1) : Nat) : Int) = (p.size : Int) + ((i + 1 : Nat) : Int) by omega, misP_right]; rfl
 ·rw [if_neg (by omega), if_neg h1, startGo_more (p ++ t) _ _ _ (t.size + 1) _ _ (by omega) (by omega) (by omega)]
  exact startGo_right p t i _ _ _ [] (by omega) hb.2
theorem endP_right (p t : ByteArray) (i : Nat) : endP (p ++ t) (p.size + i) = shI p.size (endP t i) := by
 have hz : (p ++ t).size = p.size + t.size := ByteArray.size_append
 have e1 := spP_right p.data.toList t.data.toList (nmP t (i + 2))
 have e2 := drop_right p.data.toList t.data.toList (i + 2)
 have e3 := hasP_right p.data.toList t.data.toList (spP t.data.toList (nmP t (i + 2))) [62]
 rw [bsl] at e1 e2 e3
 have hi : ((p.size + i : Nat) : Int) = (p.size : Int) + (i : Int) := by omega
 have hx : ((p.size + spP t.data.toList (nmP t (i + 2)) : Nat) : Int) = (p.size : Int) + (spP t.data.toList (nmP t (i + 2)) : Nat) := by omega
 unfold endP
 rw [Nat.add_assoc, nmP_right, bapp, e1, e2, e3, hz, show p.size + nmP t (i + 2) - (p.size + (i + 2)) = nmP t (i + 2) - (i + 2) by omega]
 by_cases h1 : nmP t (i + 2) = i + 2
 ·rw [if_pos (by omega), if_pos h1, hi, show ((p.size + (i + 2) : Nat) : Int) = (p.size : Int) + ((i + 2 : Nat) : Int) by omega]
  exact misP_shI _ _ _ _ _
 rw [if_neg (by omega), if_neg h1]
 by_cases h2 : hasP t.data.toList ((spP t.data.toList (nmP t (i + 2)) : Nat) : Int) [62] = true
 ·rw [if_pos h2, if_pos h2, hx, Int.add_assoc]; rfl
 ·rw [if_neg h2, if_neg h2, hi, hx]
  exact misP_shI _ _ _ _ _
theorem skipP_right (l m : List UInt8) (i n : Nat) (t : List UInt8) : skipP (l ++ m) (l.length + i) n t = ((l.length : Int) + (skipP m i n t).1, (skipP m i n t).2) := by
 unfold skipP
 rw [Nat.add_assoc, nextP_right]
 have hb := nextP_bd m (i + n) t
 by_cases h : nextP m (i + n) t < 0
 ·rw [if_pos h, if_pos (show nextP m (i + n) t = -1 by omega), if_pos (by decide), show ((l.length + i : Nat) : Int) = (l.length : Int) + (i : Int) by omega]
 ·rw [if_neg h, if_neg (show ¬ nextP m (i + n) t = -1 by omega), if_neg (by omega), Int.add_assoc]
theorem dataEnd_right (p t : ByteArray) (i : Nat) : dataEnd (p ++ t) (p.size + i) = p.size + dataEnd t i := by
 have hz : (p ++ t).size = p.size + t.size := ByteArray.size_append
 have e1 := nextP_right p.data.toList t.data.toList i [60]
 have hb := nextP_bd t.data.toList i [60]
 rw [bsl] at e1
 unfold dataEnd
 rw [bapp, e1]
 by_cases h : nextP t.data.toList i [60] < 0
 ·rw [if_pos h, if_pos (show nextP t.data.toList i [60] = -1 by omega), if_pos (by decide), hz]
 ·rw [if_neg h, if_neg (show ¬ nextP t.data.toList i [60] = -1 by omega), if_neg (by omega)]
  omega
def shT (d : Nat) (x : TokD) : TokD := { x with al := x.al.map (shA d), at' := (d : Int) + x.at' }
def ConsSh (d : Nat) (A B : TokD × Int × Int) : Prop := A.2 = ((d : Int) + B.2.1, B.2.2) ∧ (B.2.2 = 0 → (A.1.kind = B.1.kind ∧ A.1.tx = B.1.tx) ∧ ((B.1.kind ≠ 3 ∨ B.1.tx ≠ []) → A.1 = shT d B.1))
theorem consP_right (p t : ByteArray) (i : Nat) (hi : i < t.size) : ConsSh p.size (consP (p ++ t) (p.size + i)) (consP t i) := by
 have hz : (p ++ t).size = p.size + t.size := ByteArray.size_append
 have hI : ((p.size + i : Nat) : Int) = (p.size : Int) + (i : Int) := by omega
 have H := fun x => hasP_right p.data.toList t.data.toList i x
 have K := fun n x => skipP_right p.data.toList t.data.toList i n x
 simp only [bsl] at H K
 unfold consP
 rw [bapp, H, H, H, H, H, H, H, K, K]
 by_cases h1 : hasP t.data.toList (i : Int) [60, 63] = true
 ·rw [if_pos h1, if_pos h1]
  exact ⟨rfl, fun _ => ⟨⟨rfl, rfl⟩, fun h => by rcases h with h | h <;> exact absurd rfl h⟩⟩
 rw [if_neg h1, if_neg h1]
 by_cases h2 : hasP t.data.toList (i : Int) [60, 33, 45, 45] = true
 ·rw [if_pos h2, if_pos h2]
  exact ⟨rfl, fun _ => ⟨⟨rfl, rfl⟩, fun h => by rcases h with h | h <;> exact absurd rfl h⟩⟩
 rw [if_neg h2, if_neg h2]
 by_cases h3 : hasP t.data.toList (i : Int) [60, 33, 91, 67, 68, 65, 84, 65, 91] = true
 ·rw [if_pos h3, if_pos h3]
  have hl := hasP_len h3 (by decide)
  rw [bsl] at hl
  unfold cdataP
  rw [bapp, K]
  by_cases h4 : (skipP t.data.toList i 9 [93, 93, 62]).2 = 0
  ·rw [if_neg (by simp only; simpa using h4), if_neg (by simpa using h4)]
   obtain ⟨n, hn, hn1, hn2⟩ := skip_cdata t i h4 hl
   have e2 := drop_right p.data.toList t.data.toList (i + 9)
   rw [bsl] at e2
   refine ⟨rfl, fun _ => ?_⟩
   simp only
   rw [Nat.add_assoc, e2, hn, show ((p.size : Int) + (n : Int)).toNat - 3 - (p.size + (i + 9)) = (n : Int).toNat - 3 - (i + 9) by omega]
   refine ⟨⟨rfl, rfl⟩, fun _ => ?_⟩
   unfold tokT shT
   simp only [List.map_nil]
   rw [hI]
  ·rw [if_pos (by simp only; simpa using h4), if_pos (by simpa using h4)]
   exact ⟨rfl, fun h => absurd h h4⟩
 rw [if_neg h3, if_neg h3]
 by_cases h4 : hasP t.data.toList (i : Int) [60, 33, 68, 79, 67, 84, 89, 80, 69] = true
 ·rw [if_pos h4, if_pos h4, hI]
  exact ⟨rfl, fun h => by simp at h⟩
 rw [if_neg h4, if_neg h4]
 by_cases h5 : hasP t.data.toList (i : Int) [60, 33] = true
 ·rw [if_pos h5, if_pos h5, hI]
  exact ⟨rfl, fun h => by simp at h⟩
 rw [if_neg h5, if_neg h5]
 by_cases h6 : hasP t.data.toList (i : Int) [60, 47] = true
 ·rw [if_pos h6, if_pos h6, endP_right, hI]
  exact ⟨rfl, fun _ => ⟨⟨rfl, rfl⟩, fun _ => rfl⟩⟩
 rw [if_neg h6, if_neg h6]
 by_cases h7 : hasP t.data.toList (i : Int) [60] = true
 ·rw [if_pos h7, if_pos h7, startP_right p t i (by omega), hI]
  exact ⟨rfl, fun _ => ⟨⟨rfl, rfl⟩, fun _ => rfl⟩⟩
 rw [if_neg h7, if_neg h7]
 unfold dataP
 have hb := dataEnd_bd t i (by omega)
 have e1 := contP_right p.data.toList t.data.toList i (dataEnd t i) false (by rw [bsl]; exact hb.2)
 rw [bsl] at e1
 rw [dataEnd_right, bapp, e1]
 refine ⟨rfl, fun _ => ⟨⟨rfl, rfl⟩, fun _ => ?_⟩⟩
 unfold tokT shT
 simp only [List.map_nil]
 rw [hI]
theorem getD_left (l m : List UInt8) (i : Nat) (h : i < l.length) : (l ++ m).getD i 0 = l.getD i 0 := by
 rw [List.getD_eq_getElem?_getD, List.getD_eq_getElem?_getD, List.getElem?_append_left h]
theorem pre_left (x a m : List UInt8) (h : x.length ≤ a.length) : x.isPrefixOf (a ++ m) = x.isPrefixOf a := by
 rw [pre_take, pre_take, List.take_append_of_le_length h]
theorem hasP_left (l m : List UInt8) (i : Nat) (x : List UInt8) (h : i + x.length ≤ l.length) : hasP (l ++ m) (i : Int) x = hasP l (i : Int) x := by
 unfold hasP
 rw [Int.toNat_natCast, List.drop_append_of_le_length (by omega), pre_left _ _ _ (by rw [List.length_drop]; omega)]
theorem hasP_left_true {l : List UInt8} (m : List UInt8) {i : Nat} {x : List UInt8} (hx : x ≠ []) (h : hasP l (i : Int) x = true) : hasP (l ++ m) (i : Int) x = true := by
 rw [hasP_left l m i x (hasP_len h hx)]; exact h
theorem tW_left (f : UInt8 → Bool) : ∀ a m : List UInt8, (a.takeWhile f).length < a.length → (a ++ m).takeWhile f = a.takeWhile f
 | [], _, h => by simp at h
 | c :: a, m, h => by
  rw [List.cons_append, List.takeWhile_cons, List.takeWhile_cons]
  by_cases hc : f c = true
  ·rw [if_pos hc, if_pos hc]
   rw [List.takeWhile_cons, if_pos hc] at h
   rw [tW_left f a m (by simpa using h)]
  ·rw [if_neg hc, if_neg hc]
theorem spP_left (l m : List UInt8) (i : Nat) (h : spP l i < l.length) : spP (l ++ m) i = spP l i := by
 have hi : i ≤ l.length := by
  unfold spP at h; omega
 unfold spP at h ⊢
 rw [List.drop_append_of_le_length hi, tW_left spB _ m (by rw [List.length_drop]; omega)]
theorem quoAt_left (l m : List UInt8) (x : UInt8) (e : Nat) (h : quoAt l x e < l.length) : quoAt (l ++ m) x e = quoAt l x e := by
 have hi : e ≤ l.length := by
  unfold quoAt at h; omega
 unfold quoAt at h ⊢
 rw [List.drop_append_of_le_length hi, tW_left _ _ m (by rw [List.length_drop]; omega)]
theorem index_left : ∀ l m x : List UInt8, Lib.index l x ≠ -1 → Lib.index (l ++ m) x = Lib.index l x
 | [], m, x, h => by
  rw [Lib.index] at h ⊢
  split at h
  ·rename_i he
   rw [if_pos he]
   obtain rfl := List.isEmpty_iff.1 he
   cases m with
   | nil => rfl
   | cons b m => rw [List.nil_append, Lib.index, if_pos (by simp)]
  ·exact absurd rfl h
 | b :: l, m, x, h => by
  rw [List.cons_append, Lib.index, Lib.index]
  by_cases hp : x.isPrefixOf (b :: l) = true
  ·rw [if_pos hp, if_pos (by rw [← List.cons_append, pre_left _ _ _ (List.isPrefixOf_iff_prefix.1 hp).length_le]; exact hp)]
  ·rw [Lib.index, if_neg hp] at h
   by_cases h1 : Lib.index l x = -1
   ·rw [if_pos (by simp [h1])] at h; exact absurd rfl h
   ·have hr := index_room l x h1
    have hg := (index_ge l x).resolve_left h1
    rw [if_neg hp, if_neg (by rw [← List.cons_append, pre_left _ _ _ (by rw [List.length_cons]; omega)]; exact hp), index_left l m x h1]
theorem nextP_left (l m : List UInt8) (i : Nat) (x : List UInt8) (hi : i ≤ l.length) (h : nextP l i x ≠ -1) : nextP (l ++ m) i x = nextP l i x := by
 unfold nextP at h ⊢
 rw [List.drop_append_of_le_length hi]
 by_cases h1 : Lib.index (l.drop i) x = -1
 ·rw [if_pos h1] at h; exact absurd rfl h
 ·rw [index_left _ m _ h1]
theorem contF_left (l m : List UInt8) (j : Nat) (v : Bool) (hj : j ≤ l.length) : ∀ f i out, contF (l ++ m) j v f i out = contF l j v f i out
 | 0, _, _ => rfl
 | f + 1, i, out => by
  rw [contF, contF]
  by_cases hi : i < j
  ·have hch : chunk (l ++ m) i j = chunk l i j := by
    unfold chunk
    rw [List.drop_append_of_le_length (by omega), List.take_append_of_le_length (by rw [List.length_drop]; omega)]
   rw [if_pos hi, if_pos hi, getD_left l m i (by omega), List.take_append_of_le_length hj, hch, contF_left l m j v hj f, contF_left l m j v hj f]
  ·rw [if_neg hi, if_neg hi]
theorem contP_left (l m : List UInt8) (i j : Nat) (v : Bool) (hj : j ≤ l.length) : contP (l ++ m) i j v = contP l i j v := contF_left l m j v hj _ _ _
theorem ext_left (s r : ByteArray) (i k : Nat) (hk : k ≤ s.size) : (s ++ r).extract i k = s.extract i k := by
 rw [kext, kext, bapp]
 rcases Nat.lt_or_ge k i with h | h
 ·rw [show k - i = 0 by omega, List.take_zero, List.take_zero]
 ·rw [List.drop_append_of_le_length (by rw [bsl]; omega), List.take_append_of_le_length (by rw [List.length_drop, bsl]; omega)]
theorem nmF_left (s r : ByteArray) (i : Nat) : ∀ f k, (∃ c, s.data.toList[nmF s i f k]? = some c ∧ c.toNat < 128) → k ≤ s.size → nmF (s ++ r) i f k = nmF s i f k
 | 0, _, _, _ => rfl
 | f + 1, k, h, hk => by
  have hz : (s ++ r).size = s.size + r.size := ByteArray.size_append
  rw [nmF] at h
  rw [nmF, nmF]
  by_cases hlt : k < s.size
  ·rw [if_pos hlt] at h
   rw [if_pos (by omega), if_pos hlt]
   by_cases h0 : (decP s k).2 = 0
   ·rw [if_pos h0] at h
    obtain ⟨c, hc, hc7⟩ := h
    have := dec_ascii s k c hc hc7
    omega
   ·rw [if_neg h0] at h
    have hok := (decP_ok s k hlt).1
    rw [dec_left s r k hlt h0, if_neg h0, if_neg h0, ext_left s r i _ hok]
    by_cases hq : isQB (s.extract i (k + (decP s k).2)) = true
    ·rw [if_pos hq] at h
     rw [if_pos hq, if_pos hq]
     exact nmF_left s r i f _ h hok
    ·rw [if_neg hq, if_neg hq]
  ·rw [if_neg hlt] at h
   obtain ⟨c, hc, _⟩ := h
   rw [List.getElem?_eq_none (by rw [bsl]; omega)] at hc
   cases hc
theorem nmP_left (s r : ByteArray) (i : Nat) (hi : i ≤ s.size) (h : ∃ c, s.data.toList[nmP s i]? = some c ∧ c.toNat < 128) : nmP (s ++ r) i = nmP s i := by
 have hz : (s ++ r).size = s.size + r.size := ByteArray.size_append
 have hm : nmF s i ((s ++ r).size + 1) i = nmF s i (s.size + 1) i := nmF_more s i _ _ _ (by omega) (by omega)
 unfold nmP at h ⊢
 rw [← hm] at h
 rw [nmF_left s r i _ i h hi, hm]
theorem sp_ascii (c : UInt8) (h : spB c = true) : c.toNat < 128 := by
 unfold spB isSpaceB at h
 simp only [Bool.or_eq_true, beq_iff_eq] at h
 omega
theorem sp_head (l : List UInt8) (e : Nat) (h : spP l e < l.length) (hc : ∀ c, l[spP l e]? = some c → c.toNat < 128) : ∃ c, l[e]? = some c ∧ c.toNat < 128 := by
 have he : e < l.length := by unfold spP at h; omega
 refine ⟨l[e], List.getElem?_eq_getElem he, ?_⟩
 by_cases hs : spB l[e] = true
 ·exact sp_ascii _ hs
 ·have := spP_no l e he (by simpa using hs)
  rw [this] at hc
  exact hc _ (List.getElem?_eq_getElem he)
theorem one_get {l : List UInt8} {m : Nat} {c : UInt8} (h : hasP l (m : Int) [c] = true) : m < l.length ∧ l[m]? = some c := by
 obtain ⟨hm, hc⟩ := hasP_one l m c h
 exact ⟨hm, by rw [List.getElem?_eq_getElem hm, hc]⟩
theorem attr3_left (s r : ByteArray) (i : Nat) (N : List UInt8) (m e : Nat) (he : e ≤ s.size) (h : (attr3 s i N m e).2.2 = 0) : attr3 (s ++ r) i N m e = attr3 s i N m e ∧ e < s.size := by
 have hz : (s ++ r).size = s.size + r.size := ByteArray.size_append
 unfold attr3 at h ⊢
 rw [bapp, contP_left _ _ _ _ _ (by rw [bsl]; exact he)]
 unfold attr4 at h ⊢
 by_cases h1 : (contP s.data.toList (m + 1) e true).2.2 ≠ 0
 ·rw [if_pos h1] at h; exact absurd h h1
 ·rw [if_neg h1] at h
  by_cases h2 : e = s.size
  ·rw [if_pos h2] at h; simp at h
  ·rw [if_neg h1, if_neg h1, if_neg (by omega), if_neg h2, bapp, getD_left _ _ _ (by rw [bsl]; omega)]
   exact ⟨rfl, by omega⟩
theorem misP_err {n i : Nat} {k : Int} : (misP n i k).2 ≠ 0 := misP_ne _ _ _
theorem attr2_left (s r : ByteArray) (i : Nat) (N : List UInt8) (m : Nat) (h : (attr2 s i N m).2.2 = 0) : attr2 (s ++ r) i N m = attr2 s i N m ∧ m < s.size := by
 unfold attr2 at h ⊢
 by_cases h1 : hasP s.data.toList (m : Int) [34] = true
 ·have hm := (one_get h1).1
  have hq := quoAt_le s.data.toList 34 (m + 1) (by omega)
  rw [bsl] at hm
  rw [if_pos h1] at h
  rw [bsl] at hq
  obtain ⟨_, he⟩ := attr3_left s r i N m _ hq.2 h
  rw [bapp, if_pos (hasP_left_true _ (by decide) h1), if_pos h1, quoAt_left _ _ _ _ (by rw [bsl]; exact he)]
  exact ⟨(attr3_left s r i N m _ hq.2 h).1, hm⟩
 ·rw [if_neg h1] at h
  by_cases h2 : hasP s.data.toList (m : Int) [39] = true
  ·have hm := (one_get h2).1
   have hq := quoAt_le s.data.toList 39 (m + 1) (by omega)
   rw [bsl] at hm
   rw [if_pos h2] at h
   rw [bsl] at hq
   obtain ⟨_, he⟩ := attr3_left s r i N m _ hq.2 h
   rw [bapp, hasP_left _ _ m [34] (by rw [bsl]; exact hm), if_neg h1, if_neg h1, if_pos (hasP_left_true _ (by decide) h2), if_pos h2, quoAt_left _ _ _ _ (by rw [bsl]; exact he)]
   exact ⟨(attr3_left s r i N m _ hq.2 h).1, hm⟩
  ·rw [if_neg h2] at h
   exact absurd h misP_err
theorem attrP_left (s r : ByteArray) (i a : Nat) (ha : a ≤ s.size) (h : (attrP s i a).2.2 = 0) : attrP (s ++ r) i a = attrP s i a := by
 unfold attrP at h ⊢
 have hb := nmP_le s a ha
 by_cases h1 : nmP s a = a
 ·rw [if_pos h1] at h
  exact absurd h misP_err
 rw [if_neg h1] at h
 unfold attr1 at h
 by_cases h2 : hasP s.data.toList (spP s.data.toList (nmP s a) : Nat) [61] = true
 ·obtain ⟨hk, hkc⟩ := one_get h2
  rw [if_pos h2] at h
  have hn := nmP_left s r a ha (sp_head _ _ hk fun c hc => by rw [hkc] at hc; obtain rfl := Option.some.inj hc; decide)
  obtain ⟨e2, hm⟩ := attr2_left s r i _ _ h
  rw [hn, if_neg h1, if_neg h1, bapp, spP_left _ _ _ hk, List.drop_append_of_le_length (by rw [bsl]; omega), List.take_append_of_le_length (by rw [List.length_drop, bsl]; omega)]
  unfold attr1
  rw [bapp, if_pos (hasP_left_true _ (by decide) h2), if_pos h2, spP_left _ _ _ (by rw [bsl]; exact hm)]
  exact e2
 ·rw [if_neg h2] at h
  exact absurd h misP_err
theorem hasP_sub {l : List UInt8} {x : Nat} {a b : UInt8} (h : hasP l (x : Int) [a, b] = true) : hasP l (x : Int) [a] = true := by
 unfold hasP at h ⊢
 rw [Bool.and_eq_true] at h ⊢
 refine ⟨h.1, ?_⟩
 rw [List.isPrefixOf_iff_prefix] at h ⊢
 exact (List.prefix_append [a] [b]).trans h.2
theorem attrP_out (s : ByteArray) (i a : Nat) (h : s.size ≤ a) : (attrP s i a).2.2 ≠ 0 := by
 unfold attrP
 rw [if_pos (nmP_out s a h)]
 exact misP_err
theorem startGo_head (s : ByteArray) (i : Nat) (N : List UInt8) (f a : Nat) (acc : List AttrD) (ha : a ≤ s.size) (h : (startGo s i N (f + 1) a acc).p2 = 0) : spP s.data.toList a < s.data.toList.length ∧ ∃ c, s.data.toList[a]? = some c ∧ c.toNat < 128 := by
 have hsb := spP_le s.data.toList a (by rw [bsl]; exact ha)
 have hx : spP s.data.toList a < s.data.toList.length := by
  rcases Nat.lt_or_ge (spP s.data.toList a) s.data.toList.length with hx | hx
  ·exact hx
  ·exfalso
   have hno : ∀ t : List UInt8, t ≠ [] → hasP s.data.toList (spP s.data.toList a : Nat) t = false := fun t ht => by
    cases hq : hasP s.data.toList (spP s.data.toList a : Nat) t with
    | false => rfl
    | true =>
     have := hasP_len hq ht
     have : 0 < t.length := List.length_pos_iff.2 ht
     omega
   rw [startGo, hno _ (by decide), hno _ (by decide), hno _ (by decide), if_neg (by decide), if_neg (by decide), if_neg (by decide)] at h
   by_cases h4 : spP s.data.toList a = a
   ·rw [if_pos h4] at h; exact misP_err h
   ·rw [if_neg h4, if_pos (attrP_out s i _ (by rw [← bsl s]; exact hx))] at h
    exact attrP_out s i _ (by rw [← bsl s]; exact hx) h
 refine ⟨hx, ?_⟩
 by_cases h4 : spP s.data.toList a = a
 ·rw [startGo] at h
  by_cases h1 : hasP s.data.toList (spP s.data.toList a : Nat) [62] = true
  ·obtain ⟨_, hc⟩ := one_get h1
   rw [h4] at hc
   exact ⟨62, hc, by decide⟩
  rw [if_neg h1] at h
  by_cases h2 : hasP s.data.toList (spP s.data.toList a : Nat) [47, 62] = true
  ·obtain ⟨_, hc⟩ := one_get (hasP_sub h2)
   rw [h4] at hc
   exact ⟨47, hc, by decide⟩
  rw [if_neg h2] at h
  by_cases h3 : hasP s.data.toList (spP s.data.toList a : Nat) [47] = true
  ·rw [if_pos h3] at h; exact absurd h misP_err
  rw [if_neg h3, if_pos h4] at h
  exact absurd h misP_err
 ·have hal : a < s.data.toList.length := by omega
  refine ⟨_, List.getElem?_eq_getElem hal, ?_⟩
  by_cases hs : spB s.data.toList[a] = true
  ·exact sp_ascii _ hs
  ·exact absurd (spP_no _ a hal (by simpa using hs)) h4
theorem startGo_left (s r : ByteArray) (i : Nat) (N : List UInt8) : ∀ f a acc, s.size - a < f → a ≤ s.size → (startGo s i N f a acc).p2 = 0 → startGo (s ++ r) i N f a acc = startGo s i N f a acc
 | 0, _, _, h, _, _ => absurd h (by omega)
 | f + 1, a, acc, hf, ha, h => by
  obtain ⟨hx, _⟩ := startGo_head s i N f a acc ha h
  have hsb := spP_le s.data.toList a (by rw [bsl]; exact ha)
  rw [bsl] at hsb
  rw [startGo] at h
  rw [startGo, startGo, bapp, spP_left _ _ _ hx, hasP_left _ _ _ [62] hx]
  by_cases h1 : hasP s.data.toList (spP s.data.toList a : Nat) [62] = true
  ·rw [if_pos h1, if_pos h1]
  rw [if_neg h1] at h
  rw [if_neg h1, if_neg h1]
  by_cases h2 : hasP s.data.toList (spP s.data.toList a : Nat) [47, 62] = true
  ·rw [if_pos (hasP_left_true _ (by decide) h2), if_pos h2]
  rw [if_neg h2] at h
  by_cases h3 : hasP s.data.toList (spP s.data.toList a : Nat) [47] = true
  ·rw [if_pos h3] at h; exact absurd h misP_err
  rw [if_neg h3] at h
  have h2f : ¬ hasP (s.data.toList ++ r.data.toList) (spP s.data.toList a : Nat) [47, 62] = true := fun q => h3 (by rw [← hasP_left _ r.data.toList _ [47] hx]; exact hasP_sub q)
  rw [if_neg h2f, if_neg h2, hasP_left _ _ _ [47] hx, if_neg h3, if_neg h3]
  by_cases h4 : spP s.data.toList a = a
  ·rw [if_pos h4] at h; exact absurd h misP_err
  rw [if_neg h4] at h
  rw [if_neg h4, if_neg h4]
  by_cases h5 : (attrP s i (spP s.data.toList a)).2.2 ≠ 0
  ·rw [if_pos h5] at h; exact absurd h h5
  rw [if_neg h5] at h
  rw [attrP_left s r i _ hsb.2 (by simpa using h5), if_neg h5, if_neg h5]
  by_cases h6 : ∃ x ∈ acc, x.nm = oB (attrP s i (spP s.data.toList a)).1.1
  ·rw [if_pos h6] at h; simp at h
  rw [if_neg h6] at h
  rw [if_neg h6, if_neg h6]
  obtain ⟨z, hzz, hz1, hz2⟩ := attrP_ok s i (spP s.data.toList a) hsb.2 (by simpa using h5)
  rw [hzz, Int.toNat_natCast] at h ⊢
  exact startGo_left s r i N f z _ (by omega) hz2 h
theorem startP_left (s r : ByteArray) (i : Nat) (hi : i + 1 ≤ s.size) (h : (startP s i).p2 = 0) : startP (s ++ r) i = startP s i := by
 have hz : (s ++ r).size = s.size + r.size := ByteArray.size_append
 have hb := nmP_le s (i + 1) hi
 unfold startP at h ⊢
 by_cases h1 : nmP s (i + 1) = i + 1
 ·rw [if_pos h1] at h; exact absurd h misP_err
 rw [if_neg h1] at h
 obtain ⟨_, hc⟩ := startGo_head s i _ _ _ _ hb.2 h
 rw [nmP_left s r (i + 1) hi hc, if_neg h1, if_neg h1, bapp, List.drop_append_of_le_length (by rw [bsl]; omega), List.take_append_of_le_length (by rw [List.length_drop, bsl]; omega), startGo_more (s ++ r) i _ ((s ++ r).size + 1) ((s ++ r).size + 1) _ _ (by omega) (by omega) (by omega)]
 have hm := startGo_more s i ((s.data.toList.drop (i + 1)).take (nmP s (i + 1) - (i + 1))) (s.size + 1) ((s ++ r).size + 1) (nmP s (i + 1)) [] (by omega) (by omega) hb.2
 rw [hm] at h ⊢
 exact startGo_left s r i _ _ _ _ (by omega) hb.2 h
theorem endP_left (s r : ByteArray) (i : Nat) (hi : i + 2 ≤ s.size) (h : (endP s i).2.2 = 0) : endP (s ++ r) i = endP s i := by
 have hb := nmP_le s (i + 2) hi
 unfold endP at h ⊢
 by_cases h1 : nmP s (i + 2) = i + 2
 ·rw [if_pos h1] at h; exact absurd h misP_err
 rw [if_neg h1] at h
 by_cases h2 : hasP s.data.toList ((spP s.data.toList (nmP s (i + 2)) : Nat) : Int) [62] = true
 ·obtain ⟨hk, hkc⟩ := one_get h2
  have hn := nmP_left s r (i + 2) hi (sp_head _ _ hk fun c hc => by rw [hkc] at hc; obtain rfl := Option.some.inj hc; decide)
  rw [hn, if_neg h1, if_neg h1, bapp, spP_left _ _ _ hk, if_pos (hasP_left_true _ (by decide) h2), if_pos h2, List.drop_append_of_le_length (by rw [bsl]; omega), List.take_append_of_le_length (by rw [List.length_drop, bsl]; omega)]
 ·rw [if_neg h2] at h; exact absurd h misP_err
theorem skipP_left (l m : List UInt8) (i n : Nat) (t : List UInt8) (hi : i + n ≤ l.length) (h : (skipP l i n t).2 = 0) : skipP (l ++ m) i n t = skipP l i n t := by
 unfold skipP at h ⊢
 by_cases h1 : nextP l (i + n) t < 0
 ·rw [if_pos h1] at h; simp at h
 ·rw [nextP_left l m (i + n) t hi (by omega)]
theorem dataP_left (s r : ByteArray) (i : Nat) (hi : i ≤ s.size) (h : nextP s.data.toList i [60] ≠ -1) : dataP (s ++ r) i = dataP s i := by
 have hb := nextP_bd s.data.toList i [60]
 have hd : dataEnd (s ++ r) i = dataEnd s i := by
  unfold dataEnd
  rw [bapp, nextP_left _ _ _ _ (by rw [bsl]; exact hi) h, if_neg (by omega), if_neg (by omega)]
 unfold dataP
 have hbd := dataEnd_bd s i hi
 rw [hd, bapp, contP_left _ _ _ _ _ (by rw [bsl]; exact hbd.2)]
theorem ff : ¬ (false = true) := by decide
theorem consP_left (s r : ByteArray) (i : Nat) (hi : i < s.size) (h : (consP s i).2.2 = 0) (hd : hasP s.data.toList (i : Int) [60] = false → nextP s.data.toList i [60] ≠ -1) : consP (s ++ r) i = consP s i := by
 have hil : i < s.data.toList.length := by rw [bsl]; exact hi
 have g0 : s.data.toList[i]? = some s.data.toList[i] := List.getElem?_eq_getElem hil
 have G0 : (s.data.toList ++ r.data.toList)[i]? = some s.data.toList[i] := by rw [List.getElem?_append_left hil]; exact g0
 generalize s.data.toList[i] = c at *
 by_cases hc : c = 60
 ·subst hc
  have y7 := hasP_yes1 g0
  have Y7 := hasP_yes1 G0
  have h2 : i + 2 ≤ s.size := by
   rcases Nat.lt_or_ge s.size (i + 2) with hlt | hge
   ·exfalso
    have hno : ∀ t : List UInt8, 2 ≤ t.length → hasP s.data.toList (i : Int) t = false := fun t ht => by
     cases hq : hasP s.data.toList (i : Int) t with
     | false => rfl
     | true =>
      have := hasP_len hq (fun e => by rw [e] at ht; simp at ht)
      rw [bsl] at this
      omega
    unfold consP at h
    rw [hno _ (by decide), hno _ (by decide), hno _ (by decide), hno _ (by decide), hno _ (by decide), hno _ (by decide), if_neg ff, if_neg ff, if_neg ff, if_neg ff, if_neg ff, if_neg ff, if_pos y7] at h
    unfold startP at h
    rw [if_pos (nmP_out s (i + 1) (by omega))] at h
    exact misP_err h
   ·exact hge
  have h1l : i + 1 < s.data.toList.length := by rw [bsl]; omega
  have g1 : s.data.toList[i + 1]? = some s.data.toList[i + 1] := List.getElem?_eq_getElem h1l
  have G1 : (s.data.toList ++ r.data.toList)[i + 1]? = some s.data.toList[i + 1] := by rw [List.getElem?_append_left h1l]; exact g1
  generalize s.data.toList[i + 1] = e at *
  by_cases e1 : e = 63
  ·subst e1
   unfold consP at h ⊢
   rw [if_pos (hasP_yes2 g0 g1)] at h
   rw [bapp, if_pos (hasP_yes2 G0 G1), if_pos (hasP_yes2 g0 g1), skipP_left _ _ _ _ _ (by rw [bsl]; exact h2) h]
  by_cases e2 : e = 33
  ·subst e2
   have n1 := hasP_no2 60 63 [] g0 g1 (by decide)
   have N1 := hasP_no2 60 63 [] G0 G1 (by decide)
   unfold consP at h ⊢
   rw [n1, if_neg ff] at h
   rw [bapp, N1, n1, if_neg ff, if_neg ff]
   by_cases c2 : hasP s.data.toList (i : Int) [60, 33, 45, 45] = true
   ·have hl : i + 4 ≤ s.data.toList.length := hasP_len c2 (by decide)
    rw [if_pos c2] at h
    rw [if_pos (hasP_left_true _ (by decide) c2), if_pos c2, skipP_left _ _ _ _ _ hl h]
   rw [if_neg c2] at h
   by_cases c3 : hasP s.data.toList (i : Int) [60, 33, 91, 67, 68, 65, 84, 65, 91] = true
   ·have hl := hasP_len c3 (by decide)
    simp only [List.length_cons, List.length_nil] at hl
    rw [if_pos c3] at h
    rw [hasP_left _ _ i [60, 33, 45, 45] (by simp only [List.length_cons, List.length_nil]; omega), if_neg c2, if_neg c2, if_pos (hasP_left_true _ (by decide) c3), if_pos c3]
    unfold cdataP at h ⊢
    by_cases c4 : (skipP s.data.toList i 9 [93, 93, 62]).2 = 0
    ·obtain ⟨n, hn, hn1, hn2⟩ := skip_cdata s i c4 (by rw [← bsl s]; omega)
     rw [bapp, skipP_left _ _ _ _ _ (by omega) c4, if_neg (by simpa using c4), if_neg (by simpa using c4), hn, List.drop_append_of_le_length (by omega), List.take_append_of_le_length (by rw [List.length_drop, bsl]; omega)]
    ·rw [if_pos (by simpa using c4)] at h
     exact absurd h c4
   rw [if_neg c3] at h
   by_cases c4 : hasP s.data.toList (i : Int) [60, 33, 68, 79, 67, 84, 89, 80, 69] = true
   ·rw [if_pos c4] at h; simp at h
   rw [if_neg c4, if_pos (hasP_yes2 g0 g1)] at h
   simp at h
  have n1 := hasP_no2 60 63 [] g0 g1 e1
  have N1 := hasP_no2 60 63 [] G0 G1 e1
  have n2 := hasP_no2 60 33 [45, 45] g0 g1 e2
  have N2 := hasP_no2 60 33 [45, 45] G0 G1 e2
  have n3 := hasP_no2 60 33 [91, 67, 68, 65, 84, 65, 91] g0 g1 e2
  have N3 := hasP_no2 60 33 [91, 67, 68, 65, 84, 65, 91] G0 G1 e2
  have n4 := hasP_no2 60 33 [68, 79, 67, 84, 89, 80, 69] g0 g1 e2
  have N4 := hasP_no2 60 33 [68, 79, 67, 84, 89, 80, 69] G0 G1 e2
  have n5 := hasP_no2 60 33 [] g0 g1 e2
  have N5 := hasP_no2 60 33 [] G0 G1 e2
  unfold consP at h ⊢
  rw [n1, n2, n3, n4, n5, if_neg ff, if_neg ff, if_neg ff, if_neg ff, if_neg ff] at h
  rw [bapp, N1, N2, N3, N4, N5, n1, n2, n3, n4, n5, if_neg ff, if_neg ff, if_neg ff, if_neg ff, if_neg ff, if_neg ff, if_neg ff, if_neg ff, if_neg ff, if_neg ff]
  by_cases e3 : e = 47
  ·subst e3
   rw [if_pos (hasP_yes2 g0 g1)] at h
   rw [if_pos (hasP_yes2 G0 G1), if_pos (hasP_yes2 g0 g1), endP_left s r i h2 h]
  ·have n6 := hasP_no2 60 47 [] g0 g1 e3
   have N6 := hasP_no2 60 47 [] G0 G1 e3
   rw [n6, if_neg ff, if_pos y7] at h
   rw [N6, n6, if_neg ff, if_neg ff, if_pos Y7, if_pos y7, startP_left s r i (by omega) h]
 ·have n : ∀ t, hasP s.data.toList (i : Int) (60 :: t) = false := fun t => hasP_no t g0 hc
  have N : ∀ t, hasP (s.data.toList ++ r.data.toList) (i : Int) (60 :: t) = false := fun t => hasP_no t G0 hc
  unfold consP
  rw [bapp, n, n, n, n, n, n, n, N, N, N, N, N, N, N]
  simp only [Bool.false_eq_true, if_false]
  exact dataP_left s r i (by omega) (hd (n []))
theorem tokGo_more (s : ByteArray) : ∀ f g a acc, s.size - a < f → s.size - a < g → tokGo s f a acc = tokGo s g a acc
 | 0, _, _, _, h, _ => absurd h (by omega)
 | _ + 1, 0, _, _, _, h => absurd h (by omega)
 | f + 1, g + 1, a, acc, h, h' => by
  rw [tokGo, tokGo]
  by_cases hlt : a < s.size
  ·rw [if_pos hlt, if_pos hlt]
   by_cases h0 : (consP s a).2.2 = 0
   ·rw [if_neg (c := (consP s a).2.2 ≠ 0) (fun q => q h0), if_neg (c := (consP s a).2.2 ≠ 0) (fun q => q h0)]
    obtain ⟨z, hzz, hz1, hz2⟩ := consP_ok s a hlt h0
    rw [hzz, Int.toNat_natCast]
    exact tokGo_more s f g z _ (by omega) (by omega)
   ·rw [if_pos (c := (consP s a).2.2 ≠ 0) h0, if_pos (c := (consP s a).2.2 ≠ 0) h0]
  ·rw [if_neg hlt, if_neg hlt]
end
end Go.Proofs.YtppmoeidgefkpaaGreatDoor
