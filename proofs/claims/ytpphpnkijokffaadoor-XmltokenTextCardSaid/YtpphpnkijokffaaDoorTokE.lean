/- The reference of layer 6: content, end, attr, SameAttrs: what each returns. -/
import Derived.Test.YtpphpnkijokffaaDoorTokA
import Derived.Test.YtpphpnkijokffaaDoorEscC
import Derived.Test.YtpphpnkijokffaaDoorRow
import Derived.Lib.ConvBytes
import Derived.Laws.IdiomStrings
import Derived.Deep.QuietTactic
import Derived.BigQuiet
import Derived.WalkSmall
import Derived.Laws.StructEq
namespace Go.Proofs.YtpphpnkijokffaaDoor
open Go.RowKit

/-! ### The reference of layer 6: content: what it returns. -/
/-- The characters up to the next ampersand. -/
def amp (l : List UInt8) : List UInt8 := l.takeWhile fun c => c != 38
theorem amp_cons (c : UInt8) (r : List UInt8) (h : c ≠ 38) : amp (c :: r) = c :: amp r := by unfold amp; rw [List.takeWhile_cons, if_pos (by simpa using h)]
theorem amp_amp (r : List UInt8) : amp (38 :: r) = [] := rfl
theorem amp_len (l : List UInt8) : (amp l).length ≤ l.length := (List.takeWhile_prefix _).length_le
def chunk (l : List UInt8) (i j : Nat) : List UInt8 := amp ((l.drop i).take (j - i))
def spOne (c : UInt8) : UInt8 := if spB c then 32 else c
def spMap (v : Bool) (l : List UInt8) : List UInt8 := if v then l.map spOne else l
theorem spMap_len (v : Bool) (l : List UInt8) : (spMap v l).length = l.length := by unfold spMap; cases v <;> simp
/-- What content returns from a place on, with what has been written and a bound on the number of steps. -/
def contF (l : List UInt8) (j : Nat) (v : Bool) : Nat → Nat → List UInt8 → List UInt8 × Int × Int
  | 0, _, out => (out, (j : Int), 0)
  | f + 1, i, out => if i < j then (if l.getD i 0 = 38 then (if (refAt (l.take j) i).2.2 = 0 then contF l j v f (refAt (l.take j) i).2.1.toNat (out ++ eb (refAt (l.take j) i).1) else ([], (i : Int), (refAt (l.take j) i).2.2))
      else contF l j v f (i + (chunk l i j).length) (out ++ spMap v (linesP (chunk l i j)))) else (out, (j : Int), 0)
def contP (l : List UInt8) (i j : Nat) (v : Bool) : List UInt8 × Int × Int := contF l j v (j + 1) i []

/-- The row when the first k bytes have been looked at. -/
def rowK (ys : List UInt8) (k : Nat) : List UInt8 := (ys.take k).map spOne ++ ys.drop k
theorem rowK_len (ys : List UInt8) (k : Nat) : (rowK ys k).length = ys.length := by unfold rowK; rw [List.length_append, List.length_map, List.length_take, List.length_drop]; omega
theorem rowK_zero (ys : List UInt8) : rowK ys 0 = ys := rfl
theorem rowK_end (ys : List UInt8) : rowK ys ys.length = spMap true ys := by unfold rowK spMap; simp
theorem rowK_at (ys : List UInt8) (k : Nat) (h : k < ys.length) : (rowK ys k).getD k 0 = ys[k] := by
  unfold rowK
  rw [List.getD_eq_getElem?_getD, List.getElem?_append_right (by simp; omega)]
  simp [Nat.min_eq_left (Nat.le_of_lt h), h]
theorem rowK_yes (ys : List UInt8) (k : Nat) (h : k < ys.length) (hs : spB ys[k] = true) : (rowK ys k).set k 32 = rowK ys (k + 1) := by
  unfold rowK
  rw [List.set_append_right _ _ (by simp; omega), List.drop_eq_getElem_cons h]
  have e0 : k - ((ys.take k).map spOne).length = 0 := by simp; omega
  rw [e0, List.set_cons_zero, List.take_add_one, List.getElem?_eq_getElem h, show (some ys[k]).toList = [ys[k]] from rfl, List.map_append, List.map_cons, List.map_nil, show spOne ys[k] = 32 from if_pos hs, List.append_assoc]
  rfl
theorem rowK_no (ys : List UInt8) (k : Nat) (h : k < ys.length) (hs : spB ys[k] = false) : rowK ys k = rowK ys (k + 1) := by
  unfold rowK
  have ho : spOne ys[k] = ys[k] := by unfold spOne; rw [hs]; rfl
  rw [List.drop_eq_getElem_cons h, List.take_add_one, List.getElem?_eq_getElem h, show (some ys[k]).toList = [ys[k]] from rfl, List.map_append, List.map_cons, List.map_nil, ho, List.append_assoc]
  rfl
/-! ### The reference of layer 6: content: the walk. -/
theorem chunk_at (l : List UInt8) (k j : Nat) (hk : k < j) (hl : k < l.length) : chunk l k j = if l[k] = 38 then [] else l[k] :: chunk l (k + 1) j := by
  unfold chunk
  rw [List.drop_eq_getElem_cons hl, show j - k = (j - (k + 1)) + 1 by omega, List.take_succ_cons]
  by_cases h : l[k] = 38
  · rw [if_pos h, h, amp_amp]
  · rw [if_neg h, amp_cons _ _ h]
theorem chunk_end (l : List UInt8) (j : Nat) : chunk l j j = [] := by unfold chunk; rw [Nat.sub_self, List.take_zero]; rfl
theorem tok_ext (s : ByteArray) (k m : Nat) : s.extract k m = ofBytes ((s.data.toList.drop k).take (m - k)) := kext s k m
theorem eob_len (l : List UInt8) : (ofBytes l).size = l.length := ofBytes_size l

/-! ### The reference of layer 6: end: what it returns. -/
/-- A token without attributes. -/
def tokV (kind : Int) (name txt : List UInt8) (at' : Int) : Value := .agg #[.int .i64 kind, .string (ofBytes name), .slice none 0 0, .bool false, .string (ofBytes txt), .int .i64 at']
/-- What end returns: the name, the offset, the error. -/
def endP (s : ByteArray) (i : Nat) : List UInt8 × Int × Int :=
  if nmP s (i + 2) = i + 2 then ([], misP s.size i ((i + 2 : Nat) : Int))
  else if hasP s.data.toList ((spP s.data.toList (nmP s (i + 2)) : Nat) : Int) [62] then ((s.data.toList.drop (i + 2)).take (nmP s (i + 2) - (i + 2)), ((spP s.data.toList (nmP s (i + 2)) : Nat) : Int) + 1, 0)
  else ((s.data.toList.drop (i + 2)).take (nmP s (i + 2) - (i + 2)), misP s.size i ((spP s.data.toList (nmP s (i + 2)) : Nat) : Int))
theorem cell_set_same {w : World} {p : Addr} (v : Value) (h : (w.cell? p).isSome = true) : (w.setCell p v).cell? p = some v := by
  obtain ⟨u, hu⟩ := Option.isSome_iff_exists.mp h
  exact World.cell?_setCell_same w p v hu
theorem endP_def (s : ByteArray) (i : Nat) : endP s i = (if nmP s (i + 2) = i + 2 then ([], misP s.size i ((i + 2 : Nat) : Int))
  else if hasP s.data.toList ((spP s.data.toList (nmP s (i + 2)) : Nat) : Int) [62] then ((s.data.toList.drop (i + 2)).take (nmP s (i + 2) - (i + 2)), ((spP s.data.toList (nmP s (i + 2)) : Nat) : Int) + 1, 0)
  else ((s.data.toList.drop (i + 2)).take (nmP s (i + 2) - (i + 2)), misP s.size i ((spP s.data.toList (nmP s (i + 2)) : Nat) : Int))) := rfl
theorem tok_ret {a a' : Value} {b b' c c' : Int} (h1 : a = a') (h2 : b = b') (h3 : c = c') : Ending.returned (.tuple #[a, .int .i64 b, .int .i64 c]) = .returned (.tuple #[a', .int .i64 b', .int .i64 c']) := by rw [h1, h2, h3]

/-! ### The reference of layer 6: attr: what it returns. -/
/-- The end of a value that begins behind a quote x: the next x or '<'. -/
def quoAt (l : List UInt8) (x : UInt8) (e : Nat) : Nat := e + ((l.drop e).takeWhile fun c => c != x && c != 60).length
theorem quoAt_end (l : List UInt8) (x : UInt8) (e : Nat) (h : l.length ≤ e) : quoAt l x e = e := by unfold quoAt; rw [List.drop_eq_nil_of_le h]; rfl
theorem quoAt_no (l : List UInt8) (x y : UInt8) (e : Nat) (h : e < l.length) (hy : l[e] = y) (hs : (y != x && y != 60) = false) : quoAt l x e = e := by
  unfold quoAt; rw [List.drop_eq_getElem_cons h, List.takeWhile_cons, hy, if_neg (by rw [hs]; decide)]; rfl
theorem quoAt_yes (l : List UInt8) (x y : UInt8) (e : Nat) (h : e < l.length) (hy : l[e] = y) (hs : (y != x && y != 60) = true) : quoAt l x e = quoAt l x (e + 1) := by
  unfold quoAt; rw [List.drop_eq_getElem_cons h, List.takeWhile_cons, hy, if_pos hs, List.length_cons]; omega
theorem hasP_one (l : List UInt8) (m : Nat) (c : UInt8) (h : hasP l (m : Int) [c] = true) : ∃ hm : m < l.length, l[m] = c := by
  unfold hasP at h
  rw [Bool.and_eq_true, Int.toNat_natCast] at h
  obtain ⟨_, h⟩ := h
  rcases Nat.lt_or_ge m l.length with hm | hm
  · refine ⟨hm, ?_⟩
    rw [List.drop_eq_getElem_cons hm, List.isPrefixOf, Bool.and_eq_true] at h
    exact (beq_iff_eq.mp h.1).symm
  · rw [List.drop_eq_nil_of_le hm] at h; simp at h
def attrV (name value : List UInt8) (at' : Int) : Value := .agg #[.string ⟨#[]⟩, .string (ofBytes name), .string (ofBytes value), .int .i64 at']
def attr4 (s : ByteArray) (i : Nat) (N : List UInt8) (e : Nat) (c : List UInt8 × Int × Int) : (List UInt8 × List UInt8) × Int × Int :=
  if c.2.2 ≠ 0 then ((N, []), c.2.1, c.2.2) else if e = s.size then ((N, []), (i : Int), 8) else if s.data.toList.getD e 0 = 60 then ((N, []), (e : Int), 7) else ((N, c.1), (e : Int) + 1, 0)
def attr3 (s : ByteArray) (i : Nat) (N : List UInt8) (m e : Nat) : (List UInt8 × List UInt8) × Int × Int := attr4 s i N e (contP s.data.toList (m + 1) e true)
def attr2 (s : ByteArray) (i : Nat) (N : List UInt8) (m : Nat) : (List UInt8 × List UInt8) × Int × Int :=
  if hasP s.data.toList (m : Int) [34] then attr3 s i N m (quoAt s.data.toList 34 (m + 1)) else if hasP s.data.toList (m : Int) [39] then attr3 s i N m (quoAt s.data.toList 39 (m + 1)) else ((N, []), misP s.size i (m : Int))
def attr1 (s : ByteArray) (i : Nat) (N : List UInt8) (k : Nat) : (List UInt8 × List UInt8) × Int × Int :=
  if hasP s.data.toList (k : Int) [61] then attr2 s i N (spP s.data.toList (k + 1)) else ((N, []), misP s.size i (k : Int))
def attrP (s : ByteArray) (i a : Nat) : (List UInt8 × List UInt8) × Int × Int :=
  if nmP s a = a then (([], []), misP s.size i (a : Int)) else attr1 s i ((s.data.toList.drop a).take (nmP s a - a)) (spP s.data.toList (nmP s a))
theorem attrP_def (s : ByteArray) (i a : Nat) : attrP s i a = (if nmP s a = a then (([], []), misP s.size i (a : Int)) else attr1 s i ((s.data.toList.drop a).take (nmP s a - a)) (spP s.data.toList (nmP s a))) := rfl
theorem attr4_err {s : ByteArray} {i : Nat} {N : List UInt8} {e : Nat} {V : List UInt8} {c1 c2 : Int} (h : c2 ≠ 0) : attr4 s i N e (V, c1, c2) = ((N, []), c1, c2) := if_pos h
theorem attr4_eof {s : ByteArray} {i : Nat} {N : List UInt8} {e : Nat} {V : List UInt8} {c1 : Int} (h : e = s.size) : attr4 s i N e (V, c1, 0) = ((N, []), (i : Int), 8) := (if_neg (by simp)).trans (if_pos h)
theorem attr4_lt {s : ByteArray} {i : Nat} {N : List UInt8} {e : Nat} {V : List UInt8} {c1 : Int} (h : e < s.size) (hl : e < s.data.toList.length) (hy : s.data.toList[e] = 60) : attr4 s i N e (V, c1, 0) = ((N, []), (e : Int), 7) :=
  (if_neg (by simp)).trans ((if_neg (by omega)).trans (if_pos (by rw [List.getD_eq_getElem?_getD, List.getElem?_eq_getElem hl, hy]; rfl)))
theorem attr4_ok {s : ByteArray} {i : Nat} {N : List UInt8} {e : Nat} {V : List UInt8} {c1 : Int} {y : UInt8} (h : e < s.size) (hl : e < s.data.toList.length) (hy : s.data.toList[e] = y) (h60 : y ≠ 60) : attr4 s i N e (V, c1, 0) = ((N, V), (e : Int) + 1, 0) :=
  (if_neg (by simp)).trans ((if_neg (by omega)).trans (if_neg (by rw [List.getD_eq_getElem?_getD, List.getElem?_eq_getElem hl, hy]; exact h60)))
theorem attr_ret {a a' : Value} {b b' c c' : Int} (h1 : a = a') (h2 : b = b') (h3 : c = c') : Ending.returned (.tuple #[a, .int .i64 b, .int .i64 c]) = .returned (.tuple #[a', .int .i64 b', .int .i64 c']) := by rw [h1, h2, h3]

/-! ### The reference of layer 6: SameAttrs: what it returns. -/
/-- An attribute. -/
structure AttrD where
  sp : ByteArray
  nm : ByteArray
  va : ByteArray
  at' : Int
deriving DecidableEq
/-- A slice of attributes lies in memory. -/
def AttrsAt (w : World) (p : Option Addr) (l : List AttrD) : Prop := ∀ i (h : i < l.length), ∃ a, p = some a ∧
  w.cell? (a.add (i * 4)) = some (.string l[i].sp) ∧ w.cell? ((a.add (i * 4)).add 1) = some (.string l[i].nm) ∧ w.cell? ((a.add (i * 4)).add 2) = some (.string l[i].va) ∧ w.cell? ((a.add (i * 4)).add 3) = some (.int .i64 l[i].at')

def AttrD.val (x : AttrD) : Value := .agg #[.string x.sp, .string x.nm, .string x.va, .int .i64 x.at']
theorem eqAttr (x y : AttrD) (w : World) : (Op.equalIn 10000 38 (.agg #[.string x.sp, .string x.nm, .string x.va, .int .i64 x.at']) (.agg #[.string y.sp, .string y.nm, .string y.va, .int .i64 y.at'])).run Tryd.prog w = .ok (decide (x = y)) w := by
  have hS : Tryd.prog.underlying 38 = some (.struct (Tryd.prog.fieldsOf 38)) := by kernel_rfl
  have hF : (Tryd.prog.fieldsOf 38).toList.map (fun f => (f.name, f.type, f.offset)) = [("Space", 9, 0), ("Name", 9, 1), ("Value", 9, 2), ("At", 3, 3)] := by kernel_rfl
  have hp : Tryd.prog.stoodInHeld 38 = false := by kernel_rfl
  have u1 := Tryd.underlying9
  have u2 := Tryd.underlying3
  have g1 := run_isAgg_plain u1 rfl
  have g2 := run_isAgg_plain u2 rfl
  rw [show (10000 : Nat) = 9999 + 1 from rfl, run_equalIn_agg w 9999 38 _ _ hS hp]
  generalize (Tryd.prog.fieldsOf 38).toList = fs at hF
  have hlen := congrArg List.length hF
  rw [List.length_map] at hlen
  match fs, hlen, hF with
  | [f0, f1, f2, f3], _, hF =>
    simp only [List.map_cons, List.map_nil, List.cons.injEq, Prod.mk.injEq, and_true] at hF
    obtain ⟨⟨n0, t0, o0⟩, ⟨n1, t1, o1⟩, ⟨n2, t2, o2⟩, n3, t3, o3⟩ := hF
    simp only [Op.eqFields, n0, n1, n2, n3, t0, t1, t2, t3, o0, o1, o2, o3]
    go_simp
    have e : ∀ a b : ByteArray, a.toList = b.toList ↔ a = b := fun a b => ⟨fun h => kstr_ext (by rwa [ByteArray.toList_eq, ByteArray.toList_eq] at h), fun h => by rw [h]⟩
    simp only [e]
    obtain ⟨x0, x1, x2, x3⟩ := x
    obtain ⟨y0, y1, y2, y3⟩ := y
    simp only [AttrD.mk.injEq]
    by_cases h0 : x0 = y0 <;> by_cases h1 : x1 = y1 <;> by_cases h2 : x2 = y2 <;> by_cases h3 : x3 = y3 <;> simp [h0, h1, h2, h3]
end Go.Proofs.YtpphpnkijokffaaDoor
