/- Packed from the texts TokE. -/
import Derived.Test.YtppmoeidgefkpaaGreatDoorVEscC
import Derived.Test.YtppmoeidgefkpaaGreatDoorVRow
import Derived.Test.YtppmoeidgefkpaaGreatDoorVTokA
import Derived.Lib.ConvBytes
import Derived.Laws.IdiomStrings
import Derived.Deep.QuietTactic
import Derived.BigQuiet
import Derived.WalkSmall
import Derived.Laws.StructEq
section
namespace Go.Proofs.YtppmoeidgefkpaaGreatDoor
open Go.RowKit
def amp (l : List UInt8) : List UInt8 := l.takeWhile fun c => c != 38
theorem amp_cons (c : UInt8) (r : List UInt8) (h : c ≠ 38) : amp (c :: r) = c :: amp r := by unfold amp; rw [List.takeWhile_cons, if_pos (by simpa using h)]
theorem amp_amp (r : List UInt8) : amp (38 :: r) = [] := rfl
theorem amp_len (l : List UInt8) : (amp l).length ≤ l.length := (List.takeWhile_prefix _).length_le
def chunk (l : List UInt8) (i j : Nat) : List UInt8 := amp ((l.drop i).take (j - i))
def spOne (c : UInt8) : UInt8 := if spB c then 32 else c
def spMap (v : Bool) (l : List UInt8) : List UInt8 := if v then l.map spOne else l
theorem spMap_len (v : Bool) (l : List UInt8) : (spMap v l).length = l.length := by unfold spMap; cases v <;> simp
def contF (l : List UInt8) (j : Nat) (v : Bool) : Nat → Nat → List UInt8 → List UInt8 × Int × Int
  | 0, _, out => (out, (j : Int), 0)
  | f + 1, i, out => if i < j then (if l.getD i 0 = 38 then (if (refAt (l.take j) i).2.2 = 0 then contF l j v f (refAt (l.take j) i).2.1.toNat (out ++ eb (refAt (l.take j) i).1) else ([], (i : Int), (refAt (l.take j) i).2.2))
      else contF l j v f (i + (chunk l i j).length) (out ++ spMap v (linesP (chunk l i j)))) else (out, (j : Int), 0)
def contP (l : List UInt8) (i j : Nat) (v : Bool) : List UInt8 × Int × Int := contF l j v (j + 1) i []
theorem chunk_at (l : List UInt8) (k j : Nat) (hk : k < j) (hl : k < l.length) : chunk l k j = if l[k] = 38 then [] else l[k] :: chunk l (k + 1) j := by
  unfold chunk
  rw [List.drop_eq_getElem_cons hl, show j - k = (j - (k + 1)) + 1 by omega, List.take_succ_cons]
  by_cases h : l[k] = 38
  · rw [if_pos h, h, amp_amp]
  · rw [if_neg h, amp_cons _ _ h]
theorem chunk_end (l : List UInt8) (j : Nat) : chunk l j j = [] := by unfold chunk; rw [Nat.sub_self, List.take_zero]; rfl
def endP (s : ByteArray) (i : Nat) : List UInt8 × Int × Int :=
  if nmP s (i + 2) = i + 2 then ([], misP s.size i ((i + 2 : Nat) : Int))
  else if hasP s.data.toList ((spP s.data.toList (nmP s (i + 2)) : Nat) : Int) [62] then ((s.data.toList.drop (i + 2)).take (nmP s (i + 2) - (i + 2)), ((spP s.data.toList (nmP s (i + 2)) : Nat) : Int) + 1, 0)
  else ((s.data.toList.drop (i + 2)).take (nmP s (i + 2) - (i + 2)), misP s.size i ((spP s.data.toList (nmP s (i + 2)) : Nat) : Int))
theorem cell_set_same {w : World} {p : Addr} (v : Value) (h : (w.cell? p).isSome = true) : (w.setCell p v).cell? p = some v := by
  obtain ⟨u, hu⟩ := Option.isSome_iff_exists.mp h
  exact World.cell?_setCell_same w p v hu
theorem endP_def (s : ByteArray) (i : Nat) : endP s i = (if nmP s (i + 2) = i + 2 then ([], misP s.size i ((i + 2 : Nat) : Int))
  else if hasP s.data.toList ((spP s.data.toList (nmP s (i + 2)) : Nat) : Int) [62] then ((s.data.toList.drop (i + 2)).take (nmP s (i + 2) - (i + 2)), ((spP s.data.toList (nmP s (i + 2)) : Nat) : Int) + 1, 0)
  else ((s.data.toList.drop (i + 2)).take (nmP s (i + 2) - (i + 2)), misP s.size i ((spP s.data.toList (nmP s (i + 2)) : Nat) : Int))) := rfl
def quoAt (l : List UInt8) (x : UInt8) (e : Nat) : Nat := e + ((l.drop e).takeWhile fun c => c != x && c != 60).length
theorem hasP_one (l : List UInt8) (m : Nat) (c : UInt8) (h : hasP l (m : Int) [c] = true) : ∃ hm : m < l.length, l[m] = c := by
  unfold hasP at h
  rw [Bool.and_eq_true, Int.toNat_natCast] at h
  obtain ⟨_, h⟩ := h
  rcases Nat.lt_or_ge m l.length with hm | hm
  · refine ⟨hm, ?_⟩
    rw [List.drop_eq_getElem_cons hm, List.isPrefixOf, Bool.and_eq_true] at h
    exact (beq_iff_eq.mp h.1).symm
  · rw [List.drop_eq_nil_of_le hm] at h; simp at h
def attr4 (s : ByteArray) (i : Nat) (N : List UInt8) (e : Nat) (c : List UInt8 × Int × Int) : (List UInt8 × List UInt8) × Int × Int :=
  if c.2.2 ≠ 0 then ((N, []), c.2.1, c.2.2) else if e = s.size then ((N, []), (i : Int), 8) else if s.data.toList.getD e 0 = 60 then ((N, []), (e : Int), 7) else ((N, c.1), (e : Int) + 1, 0)
def attr3 (s : ByteArray) (i : Nat) (N : List UInt8) (m e : Nat) : (List UInt8 × List UInt8) × Int × Int := attr4 s i N e (contP s.data.toList (m + 1) e true)
def attr2 (s : ByteArray) (i : Nat) (N : List UInt8) (m : Nat) : (List UInt8 × List UInt8) × Int × Int :=
  if hasP s.data.toList (m : Int) [34] then attr3 s i N m (quoAt s.data.toList 34 (m + 1)) else if hasP s.data.toList (m : Int) [39] then attr3 s i N m (quoAt s.data.toList 39 (m + 1)) else ((N, []), misP s.size i (m : Int))
def attr1 (s : ByteArray) (i : Nat) (N : List UInt8) (k : Nat) : (List UInt8 × List UInt8) × Int × Int :=
  if hasP s.data.toList (k : Int) [61] then attr2 s i N (spP s.data.toList (k + 1)) else ((N, []), misP s.size i (k : Int))
def attrP (s : ByteArray) (i a : Nat) : (List UInt8 × List UInt8) × Int × Int :=
  if nmP s a = a then (([], []), misP s.size i (a : Int)) else attr1 s i ((s.data.toList.drop a).take (nmP s a - a)) (spP s.data.toList (nmP s a))
theorem attrP_def (s : ByteArray) (i a : Nat) : attrP s i a = (if nmP s a = a then (([], []), misP s.size i (a : Int)) else attr1 s i ((s.data.toList.drop a).take (nmP s a - a)) (spP s.data.toList (nmP s a))) := rfl
theorem attr4_err {s : ByteArray} {i : Nat} {N : List UInt8} {e : Nat} {V : List UInt8} {c1 c2 : Int} (h : c2 ≠ 0) : attr4 s i N e (V, c1, c2) = ((N, []), c1, c2) := if_pos h
theorem attr4_eof {s : ByteArray} {i : Nat} {N : List UInt8} {e : Nat} {V : List UInt8} {c1 : Int} (h : e = s.size) : attr4 s i N e (V, c1, 0) = ((N, []), (i : Int), 8) := (if_neg (by simp)).trans (if_pos h)
theorem attr4_lt {s : ByteArray} {i : Nat} {N : List UInt8} {e : Nat} {V : List UInt8} {c1 : Int} (h : e < s.size) (hl : e < s.data.toList.length) (hy : s.data.toList[e] = 60) : attr4 s i N e (V, c1, 0) = ((N, []), (e : Int), 7) :=
  (if_neg (by simp)).trans ((if_neg (by omega)).trans (if_pos (by rw [List.getD_eq_getElem?_getD, List.getElem?_eq_getElem hl, hy]; rfl)))
theorem attr4_ok {s : ByteArray} {i : Nat} {N : List UInt8} {e : Nat} {V : List UInt8} {c1 : Int} {y : UInt8} (h : e < s.size) (hl : e < s.data.toList.length) (hy : s.data.toList[e] = y) (h60 : y ≠ 60) : attr4 s i N e (V, c1, 0) = ((N, V), (e : Int) + 1, 0) :=
  (if_neg (by simp)).trans ((if_neg (by omega)).trans (if_neg (by rw [List.getD_eq_getElem?_getD, List.getElem?_eq_getElem hl, hy]; exact h60)))
structure AttrD where
  sp : ByteArray
  nm : ByteArray
  va : ByteArray
  at' : Int
deriving DecidableEq
def AttrsAt (w : World) (p : Option Addr) (l : List AttrD) : Prop := ∀ i (h : i < l.length), ∃ a, p = some a ∧
  w.cell? (a.add (i * 4)) = some (.string l[i].sp) ∧ w.cell? ((a.add (i * 4)).add 1) = some (.string l[i].nm) ∧ w.cell? ((a.add (i * 4)).add 2) = some (.string l[i].va) ∧ w.cell? ((a.add (i * 4)).add 3) = some (.int .i64 l[i].at')
def AttrD.val (x : AttrD) : Value := .agg #[.string x.sp, .string x.nm, .string x.va, .int .i64 x.at']
end Go.Proofs.YtppmoeidgefkpaaGreatDoor
end
