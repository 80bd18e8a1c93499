/- Packed from the texts TreL TreA TreB TreD TreM Hol TreG TreH BuiA BuiB BuiC BuiD TreO TreI TreP TreW TreX TreK TreU TreV. -/
import Derived.Test.YtppmoeidgefkpaaGreatDoorWBldr
import Derived.Test.YtppmoeidgefkpaaGreatDoorWLate
import Derived.Test.YtppmoeidgefkpaaGreatDoorWTextE
import Derived.Test.YtppmoeidgefkpaaGreatDoorWkB
import Derived.Test.YtppmoeidgefkpaaGreatDoorWkC
import Derived.Deep.QuietTactic
import Derived.BigQuiet
import Derived.WalkSmall
import Derived.BigGuard
import Derived.Deep.RegionHeld3
import Derived.Lib.FrozenHead2
import Derived.Deep.AppendLies
import Derived.Deep.Cut
import Derived.Deep.RegionLaw
set_option maxRecDepth 100000
namespace Go.Proofs.YtppmoeidgefkpaaGreatDoor
section
open Go.RowKit
theorem contF_len (l : List UInt8) (j : Nat) (v : Bool) : ∀ f i out, (contF l j v f i out).1.length ≤ out.length + f * (l.length + 4)
 | 0, i, out => by rw [contF]; simp only; omega
 | f + 1, i, out => by
  have hm : (f + 1) * (l.length + 4) = f * (l.length + 4) + (l.length + 4) := Nat.succ_mul _ _
  rw [contF]
  split
  ·split
   ·split
    ·have := contF_len l j v f (refAt (l.take j) i).2.1.toNat (out ++ eb (refAt (l.take j) i).1)
     rw [List.length_append] at this
     have := eb_len (refAt (l.take j) i).1
     omega
    ·simp
   ·have := contF_len l j v f (i + (chunk l i j).length) (out ++ spMap v (linesP (chunk l i j)))
    rw [List.length_append, spMap_len] at this
    have h1 := linesP_len (chunk l i j)
    have h2 : (chunk l i j).length ≤ l.length := by
     unfold chunk
     refine Nat.le_trans (amp_len _) ?_
     rw [List.length_take, List.length_drop]
     omega
    omega
  ·simp only
   omega
def TxOk (n : Nat) (t : TokD) : Prop := t.tx.length ≤ (n + 1) * (n + 4) ∧ (t.kind = 1 ∨ t.kind = 2 ∨ t.kind = 3) ∧ (t.kind = 3 → t.tx ≠ [])
theorem consP_tx (s : ByteArray) (i : Nat) (hi : i ≤ s.size) (h0 : (consP s i).2.2 = 0) (h : (consP s i).1.kind ≠ 3 ∨ (consP s i).1.tx ≠ []) : TxOk s.size (consP s i).1 := by
 have hsl : s.data.toList.length = s.size := by simp
 have hM : s.size ≤ (s.size + 1) * (s.size + 4) := by
  have : (s.size + 1) * (s.size + 4) = s.size * (s.size + 4) + (s.size + 4) := Nat.succ_mul _ _
  omega
 have key : (consP s i).1.tx.length ≤ (s.size + 1) * (s.size + 4) ∧ ((consP s i).1.kind = 1 ∨ (consP s i).1.kind = 2 ∨ (consP s i).1.kind = 3) := by
  unfold consP at h0 ⊢
  split
  ·exact ⟨Nat.zero_le _, .inr (.inr rfl)⟩
  ·rename_i h1
   rw [if_neg h1] at h0
   split
   ·exact ⟨Nat.zero_le _, .inr (.inr rfl)⟩
   ·rename_i h2
    rw [if_neg h2] at h0
    split
    ·rename_i h3
     rw [if_pos h3] at h0
     unfold cdataP at h0 ⊢
     split
     ·rename_i h4
      rw [if_pos h4] at h0
      exact absurd h0 h4
     ·refine ⟨Nat.le_trans (linesP_len _) ?_, .inr (.inr rfl)⟩
      rw [List.length_take, List.length_drop]
      omega
    ·rename_i h3
     rw [if_neg h3] at h0
     split
     ·rename_i h4
      rw [if_pos h4] at h0
      exact absurd (show (11 : Int) = 0 from h0) (by decide)
     ·rename_i h4
      rw [if_neg h4] at h0
      split
      ·rename_i h5
       rw [if_pos h5] at h0
       exact absurd (show (7 : Int) = 0 from h0) (by decide)
      ·split
       ·exact ⟨Nat.zero_le _, .inr (.inl rfl)⟩
       ·split
        ·exact ⟨Nat.zero_le _, .inl rfl⟩
        ·refine ⟨?_, .inr (.inr rfl)⟩
         have hc := contF_len s.data.toList (dataEnd s i) false (dataEnd s i + 1) i []
         have hd := (dataEnd_bd s i hi).2
         rw [hsl] at hc
         show (contP s.data.toList i (dataEnd s i) false).1.length ≤ _
         unfold contP
         refine Nat.le_trans hc ?_
         rw [List.length_nil, Nat.zero_add]
         exact Nat.mul_le_mul_right _ (by omega)
 refine ⟨key.1, key.2, fun e => ?_⟩
 rcases h with h | h
 ·exact absurd e h
 ·exact h
theorem tokGo_tx (s : ByteArray) : ∀ f a acc, s.size - a < f → a ≤ s.size → (∀ t ∈ acc, TxOk s.size t) → ∀ t ∈ (tokGo s f a acc).1, TxOk s.size t
 | 0, a, acc, hf, _, _ => absurd hf (by omega)
 | f + 1, a, acc, hf, ha, h => by
  rw [tokGo]
  split
  ·rename_i hlt
   split
   ·intro t ht; cases ht
   ·rename_i h0
    have h0' : (consP s a).2.2 = 0 := by simpa using h0
    obtain ⟨z, hz, hz1, hz2⟩ := consP_ok s a hlt h0'
    refine tokGo_tx s f _ _ (by rw [hz]; simp; omega) (by rw [hz]; simpa using hz2) ?_
    split
    ·rename_i hk
     intro t ht
     rcases List.mem_append.1 ht with h1 | h1
     ·exact h t h1
     ·rw [List.mem_singleton.1 h1]; exact consP_tx s a ha h0' hk
    ·exact h
  ·exact h
theorem toksP_tx (s : ByteArray) : ∀ t ∈ (toksP s).1, TxOk s.size t := by
 have hsl : s.data.toList.length = s.size := by simp
 unfold toksP
 split
 ·intro t ht; cases ht
 ·refine tokGo_tx s _ _ _ (by split <;> omega) ?_ (fun t ht => by cases ht)
  split
  ·rename_i hB
   have := hasP_len (i := 0) hB (by decide)
   rw [hsl] at this
   simpa using this
  ·omega
end
section
open Go.RowKit
inductive NodeD where
 | mk (kind : Int) (sp nm : ByteArray) (al : List AttrD) (kids : List NodeD) (tx : ByteArray) (at' : Int)
def NodeD.kind : NodeD → Int | .mk k _ _ _ _ _ _ => k
def NodeD.sp : NodeD → ByteArray | .mk _ s _ _ _ _ _ => s
def NodeD.nm : NodeD → ByteArray | .mk _ _ n _ _ _ _ => n
def NodeD.al : NodeD → List AttrD | .mk _ _ _ a _ _ _ => a
def NodeD.kids : NodeD → List NodeD | .mk _ _ _ _ k _ _ => k
def NodeD.tx : NodeD → ByteArray | .mk _ _ _ _ _ t _ => t
def NodeD.at' : NodeD → Int | .mk _ _ _ _ _ _ a => a
mutual
def NodeD.cnt : NodeD → Nat
 | .mk _ _ _ _ kids _ _ => 1 + cnts kids
def cnts : List NodeD → Nat
 | [] => 0
 | k :: r => k.cnt + cnts r
end
theorem cnts_mem : ∀ (l : List NodeD) (k : NodeD), k ∈ l → k.cnt ≤ cnts l
 | [], _, h => by cases h
 | x :: r, k, h => by
  rw [cnts]
  rcases List.mem_cons.1 h with rfl | h
  ·omega
  ·have := cnts_mem r k h
   omega
theorem cnt_eq (n : NodeD) : n.cnt = 1 + cnts n.kids := by
 cases n; rw [NodeD.cnt]; rfl
theorem cnt_kid (n k : NodeD) (h : k ∈ n.kids) : k.cnt < n.cnt := by
 have := cnts_mem _ k h
 rw [cnt_eq n]
 omega
mutual
def NodeIs (w : World) : NodeD → Value → Prop
 | .mk kind sp nm al kids tx at', v => ∃ pa ca pk ck, v = .agg #[.int .i64 kind, .string sp, .string nm, .slice pa al.length ca, .slice pk kids.length ck, .string tx, .int .i64 at'] ∧ AttrsAt w pa al ∧ KidsAt w pk 0 kids
def KidsAt (w : World) (p : Option Addr) (i : Nat) : List NodeD → Prop
 | [] => True
 | k :: r => (∃ a v0 v1 v2 v3 v4 v5 v6, p = some a ∧ (w.cell? (a.add (i * 7)) = some v0 ∧ w.cell? ((a.add (i * 7)).add 1) = some v1 ∧ w.cell? ((a.add (i * 7)).add 2) = some v2 ∧ w.cell? ((a.add (i * 7)).add 3) = some v3 ∧ w.cell? ((a.add (i * 7)).add 4) = some v4 ∧ w.cell? ((a.add (i * 7)).add 5) = some v5 ∧ w.cell? ((a.add (i * 7)).add 6) = some v6) ∧ NodeIs w k (.agg #[v0, v1, v2, v3, v4, v5, v6])) ∧ KidsAt w p (i + 1) r
end
theorem node_is (w : World) (n : NodeD) (v : Value) : NodeIs w n v ↔ ∃ pa ca pk ck, v = .agg #[.int .i64 n.kind, .string n.sp, .string n.nm, .slice pa n.al.length ca, .slice pk n.kids.length ck, .string n.tx, .int .i64 n.at'] ∧ AttrsAt w pa n.al ∧ KidsAt w pk 0 n.kids := by
 cases n; rw [NodeIs]; exact Iff.rfl
mutual
theorem NodeIs.below {w w' : World} (hb : Below w.heap.size w w') : ∀ (n : NodeD) (v : Value), NodeIs w n v → NodeIs w' n v
 | .mk kind sp nm al kids tx at', v, h => by
  rw [NodeIs] at h ⊢
  obtain ⟨pa, ca, pk, ck, rfl, ha, hk⟩ := h
  exact ⟨pa, ca, pk, ck, rfl, ha.below hb, KidsAt.below hb kids pk 0 hk⟩
theorem KidsAt.below {w w' : World} (hb : Below w.heap.size w w') : ∀ (l : List NodeD) (p : Option Addr) (i : Nat), KidsAt w p i l → KidsAt w' p i l
 | [], p, i, _ => by rw [KidsAt]; trivial
 | k :: r, p, i, h => by
  rw [KidsAt] at h ⊢
  obtain ⟨⟨a, v0, v1, v2, v3, v4, v5, v6, hp, ⟨h0, h1, h2, h3, h4, h5, h6⟩, hn⟩, hr⟩ := h
  exact ⟨⟨a, v0, v1, v2, v3, v4, v5, v6, hp, ⟨(hb.cell (kbl h0)).trans h0, (hb.cell (kbl h1)).trans h1, (hb.cell (kbl h2)).trans h2, (hb.cell (kbl h3)).trans h3, (hb.cell (kbl h4)).trans h4, (hb.cell (kbl h5)).trans h5, (hb.cell (kbl h6)).trans h6⟩, NodeIs.below hb k _ hn⟩, KidsAt.below hb r p (i + 1) hr⟩
end
theorem KidsAt.get {w : World} {p : Option Addr} : ∀ (l : List NodeD) (j : Nat), KidsAt w p j l → ∀ i (h : i < l.length), ∃ a v0 v1 v2 v3 v4 v5 v6, p = some a ∧ (w.cell? (a.add ((j + i) * 7)) = some v0 ∧ w.cell? ((a.add ((j + i) * 7)).add 1) = some v1 ∧ w.cell? ((a.add ((j + i) * 7)).add 2) = some v2 ∧ w.cell? ((a.add ((j + i) * 7)).add 3) = some v3 ∧ w.cell? ((a.add ((j + i) * 7)).add 4) = some v4 ∧ w.cell? ((a.add ((j + i) * 7)).add 5) = some v5 ∧ w.cell? ((a.add ((j + i) * 7)).add 6) = some v6) ∧ NodeIs w l[i] (.agg #[v0, v1, v2, v3, v4, v5, v6])
 | [], _, _, i, h => absurd h (Nat.not_lt_zero _)
 | k :: r, j, hk, 0, _ => by
  rw [KidsAt] at hk
  exact hk.1
 | k :: r, j, hk, i + 1, h => by
  rw [KidsAt] at hk
  have := KidsAt.get r (j + 1) hk.2 i (by simpa using h)
  rw [show j + 1 + i = j + (i + 1) by omega] at this
  exact this
mutual
def NodeD.depth : NodeD → Nat
 | .mk kind _ _ _ kids _ _ => if kind = 1 then 0 else depths kids 0 + 1
def depths : List NodeD → Nat → Nat
 | [], m => m
 | k :: r, m => depths r (max m k.depth)
end
mutual
def NodeD.text : NodeD → ByteArray
 | .mk kind _ _ _ kids tx _ => if kind = 1 then tx else texts kids
def texts : List NodeD → ByteArray
 | [] => ⟨#[]⟩
 | k :: r => k.text ++ texts r
end
def attrEqB (off : Bool) (x y : AttrD) : Bool := decide (x.sp = y.sp ∧ x.nm = y.nm ∧ x.va = y.va ∧ (off = true → x.at' = y.at'))
def allEq (off : Bool) : List AttrD → List AttrD → Bool
 | [], _ => true
 | _ :: _, [] => true
 | x :: r, y :: q => attrEqB off x y && allEq off r q
def headEq (off : Bool) (n m : NodeD) : Bool := decide (n.kind = m.kind ∧ n.sp = m.sp ∧ n.nm = m.nm ∧ n.tx = m.tx ∧ (off = true → n.at' = m.at') ∧ n.al.length = m.al.length ∧ n.kids.length = m.kids.length)
mutual
def NodeD.eqB (off : Bool) : NodeD → NodeD → Bool
 | .mk k s n al kids tx a, m => headEq off (.mk k s n al kids tx a) m && (allEq off al m.al && eqsB off kids m.kids)
def eqsB (off : Bool) : List NodeD → List NodeD → Bool
 | [], _ => true
 | _ :: _, [] => true
 | k :: r, m :: q => k.eqB off m && eqsB off r q
end
theorem eq_eq (off : Bool) (n m : NodeD) : n.eqB off m = (headEq off n m && (allEq off n.al m.al && eqsB off n.kids m.kids)) := by cases n; rw [NodeD.eqB]; rfl
end
section
open Go.RowKit
theorem depth_eq (n : NodeD) : n.depth = if n.kind = 1 then 0 else depths n.kids 0 + 1 := by cases n; rw [NodeD.depth]; rfl
end
section
open Go.RowKit
mutual
def NodeD.wt : NodeD → Nat
 | .mk _ _ _ al kids _ _ => 1 + al.length + wts kids
def wts : List NodeD → Nat
 | [] => 0
 | k :: r => k.wt + wts r
end
theorem wts_mem : ∀ (l : List NodeD) (k : NodeD), k ∈ l → k.wt ≤ wts l
 | [], _, h => by cases h
 | x :: r, k, h => by
  rw [wts]
  rcases List.mem_cons.1 h with rfl | h
  ·omega
  ·have := wts_mem r k h
   omega
theorem wt_eq (n : NodeD) : n.wt = 1 + n.al.length + wts n.kids := by cases n; rw [NodeD.wt]; rfl
theorem wts_len : ∀ l : List NodeD, l.length ≤ wts l
 | [] => Nat.le_refl _
 | k :: r => by
  rw [wts, List.length_cons]
  have h1 := wt_eq k
  have h2 := wts_len r
  omega
theorem wt_kid (n k : NodeD) (h : k ∈ n.kids) : k.wt < n.wt := by
 have := wts_mem _ k h
 rw [wt_eq n]
 omega
theorem allEq_drop (off : Bool) (l m : List AttrD) (i : Nat) (h : i < l.length) (h' : i < m.length) : allEq off (l.drop i) (m.drop i) = (attrEqB off l[i] m[i] && allEq off (l.drop (i + 1)) (m.drop (i + 1))) := by
 rw [List.drop_eq_getElem_cons h, List.drop_eq_getElem_cons h', allEq]
theorem eqsB_drop (off : Bool) (l m : List NodeD) (i : Nat) (h : i < l.length) (h' : i < m.length) : eqsB off (l.drop i) (m.drop i) = (l[i].eqB off m[i] && eqsB off (l.drop (i + 1)) (m.drop (i + 1))) := by
 rw [List.drop_eq_getElem_cons h, List.drop_eq_getElem_cons h', eqsB]
theorem trB {a b : Bool} (h : a = b) : Ending.returned (.bool a) = .returned (.bool b) := by rw [h]
theorem str_ne3 {a b : ByteArray} (h : a ≠ b) : ¬ a.toList = b.toList := by
 intro e
 apply h
 rw [ByteArray.toList_eq, ByteArray.toList_eq] at e
 cases a; cases b; simp at e; simp [e]
theorem str_ne2 {a b : ByteArray} (h : a ≠ b) : (a.toList == b.toList) = false := beq_eq_false_iff_ne.2 (str_ne3 h)
theorem str_ne {a b : ByteArray} (h : a ≠ b) : (a.toList != b.toList) = true := by
 rw [bne_iff_ne]
 intro e
 apply h
 rw [ByteArray.toList_eq, ByteArray.toList_eq] at e
 cases a; cases b; simp at e; simp [e]
def EqC (off : Bool) (f : Nat) : Prop := ∀ (n m : NodeD) (v u : Value) (w : World), n.wt ≤ f → n.wt ≤ 100000000 → NodeIs w n v → NodeIs w m u → Calls Tryz.prog 10 #[v, u, .bool off] w fun e w' => e = .returned (.bool (n.eqB off m)) ∧ Below w.heap.size w w'
def EqM (off : Bool) (f : Nat) : Prop := ∀ (O : Bool) (_ : O = off) (w : World) (k1 : Int) (s1 n1 t1 : ByteArray) (a1 a2 : Int) (al bl : List AttrD) (kids lids : List NodeD) (pa pk qa qk : Option Addr) (ca ck da dk : Nat) (R : Bool), R = (allEq O al bl && eqsB O kids lids) → (off = true → (a1 != a2) = false) → al.length = bl.length → kids.length = lids.length → (∀ k ∈ kids, k.wt ≤ f ∧ k.wt ≤ 100000000) → (kids.length : Int) ≤ 100000000 → (al.length : Int) ≤ 100000000 → AttrsAt w pa al → KidsAt w pk 0 kids → AttrsAt w qa bl → KidsAt w qk 0 lids →
  Calls Tryz.prog 10 #[.agg #[.int .i64 k1, .string s1, .string n1, .slice pa al.length ca, .slice pk kids.length ck, .string t1, .int .i64 a1], .agg #[.int .i64 k1, .string s1, .string n1, .slice qa al.length da, .slice qk kids.length dk, .string t1, .int .i64 a2], .bool off] w fun e w' => e = .returned (.bool R) ∧ Below w.heap.size w w'
set_option maxHeartbeats 16000000 in
theorem eq_heads (off : Bool) (f : Nat) (EM : EqM off f) : EqC off (f + 1) := by
  intro n m v u w hf hc hn hm
  have HD := Lib.hid (eq_eq off n m)
  have hwe := wt_eq n
  have hwl := wts_len n.kids
  have hkm : ∀ k ∈ n.kids, k.wt ≤ f ∧ k.wt ≤ 100000000 := fun k hk => by have := wt_kid n k hk; omega
  have HKM := Lib.hid hkm
  obtain ⟨pa, ca, pk, ck, rfl, hA, hK⟩ := (node_is w n v).1 hn
  obtain ⟨qa, da, qk, dk, rfl, hB, hL⟩ := (node_is w m u).1 hm
  have hkl : (n.kids.length : Int) ≤ 100000000 := by omega
  have hal : (n.al.length : Int) ≤ 100000000 := by omega
  have hbw : Below w.heap.size w ((w.alloc (.cells #[.int .i64 n.kind, .string n.sp, .string n.nm, .slice pa n.al.length ca, .slice pk n.kids.length ck, .string n.tx, .int .i64 n.at'] 25)).alloc (.cells #[.int .i64 m.kind, .string m.sp, .string m.nm, .slice qa m.al.length da, .slice qk m.kids.length dk, .string m.tx, .int .i64 m.at'] 25)) := ((Below.refl _ _).alloc (Nat.le_refl _) _).alloc (by simp) _
  clear hn hm hkm hf hwe hwl
  have hh : headEq off n m = decide (n.kind = m.kind ∧ n.sp = m.sp ∧ n.nm = m.nm ∧ n.tx = m.tx ∧ (off = true → n.at' = m.at') ∧ n.al.length = m.al.length ∧ n.kids.length = m.kids.length) := rfl
  generalize n.kind = k1 at *
  generalize n.sp = s1 at *
  generalize n.nm = n1 at *
  generalize n.tx = t1 at *
  generalize n.at' = a1 at *
  generalize n.al = al at *
  generalize n.kids = kids at *
  generalize m.kind = k2 at *
  generalize m.sp = s2 at *
  generalize m.nm = n2 at *
  generalize m.tx = t2 at *
  generalize m.at' = a2 at *
  generalize m.al = bl at *
  generalize m.kids = lids at *
  by_cases h1 : k1 = k2
  case neg =>
   have HH := Lib.hid (hh.trans (decide_eq_false (fun q => h1 q.1)))
   have q1 : (k1 != k2) = true := by simpa using h1
   clear hh h1 hA hB hK hL
   go_enter Tryz.func10, Tryz.ntmps10
   go_wp2
   go_ret
   exact ⟨trB (by rw [HD.out, HH.out]; rfl), hbw⟩
  subst h1
  by_cases h2 : s1 = s2
  case neg =>
   have HH := Lib.hid (hh.trans (decide_eq_false (fun q => h2 q.2.1)))
   have q2 := str_ne h2
   have r2 := str_ne2 h2
   have u2 := str_ne3 h2
   clear hh h2 hA hB hK hL
   go_enter Tryz.func10, Tryz.ntmps10
   go_wp2
   go_ret
   exact ⟨trB (by rw [HD.out, HH.out]; rfl), hbw⟩
  subst h2
  by_cases h3 : n1 = n2
  case neg =>
   have HH := Lib.hid (hh.trans (decide_eq_false (fun q => h3 q.2.2.1)))
   have q3 := str_ne h3
   have r3 := str_ne2 h3
   have u3 := str_ne3 h3
   clear hh h3 hA hB hK hL
   go_enter Tryz.func10, Tryz.ntmps10
   go_wp2
   go_ret
   exact ⟨trB (by rw [HD.out, HH.out]; rfl), hbw⟩
  subst h3
  by_cases h4 : t1 = t2
  case neg =>
   have HH := Lib.hid (hh.trans (decide_eq_false (fun q => h4 q.2.2.2.1)))
   have q4 := str_ne h4
   have r4 := str_ne2 h4
   have u4 := str_ne3 h4
   clear hh h4 hA hB hK hL
   go_enter Tryz.func10, Tryz.ntmps10
   go_wp2
   go_ret
   exact ⟨trB (by rw [HD.out, HH.out]; rfl), hbw⟩
  subst h4
  have q5t : off = true → a1 = a2 → (a1 != a2) = false := fun _ e => by simp [e]
  by_cases h5 : off = true ∧ a1 ≠ a2
  case pos =>
   obtain ⟨rfl, h5⟩ := h5
   have HH := Lib.hid (hh.trans (decide_eq_false (fun q => h5 (q.2.2.2.2.1 rfl))))
   have q5 : (a1 != a2) = true := by simpa using h5
   clear hh h5 hA hB hK hL q5t
   go_enter Tryz.func10, Tryz.ntmps10
   go_wp2
   go_ret
   exact ⟨trB (by rw [HD.out, HH.out]; rfl), hbw⟩
  have hoff : off = true → (a1 != a2) = false ∧ a1 = a2 := fun e => by
   have e2 : a1 = a2 := Classical.byContradiction fun q => h5 ⟨e, q⟩
   exact ⟨q5t e e2, e2⟩
  clear h5 q5t
  by_cases h6 : al.length = bl.length
  case neg =>
   have HH := Lib.hid (hh.trans (decide_eq_false (fun q => h6 q.2.2.2.2.2.1)))
   have q6 : ((al.length : Int) != (bl.length : Int)) = true := by simp; omega
   have r6 : ((al.length : Int) == (bl.length : Int)) = false := by simp; omega
   rcases off with _ | _
   ·clear hh h6 hA hB hK hL hoff
    go_enter Tryz.func10, Tryz.ntmps10
    go_wp2
    go_ret
    exact ⟨trB (by rw [HD.out, HH.out]; rfl), hbw⟩
   ·have q5 := (hoff rfl).1
    clear hh h6 hA hB hK hL hoff
    go_enter Tryz.func10, Tryz.ntmps10
    go_wp2
    go_ret
    exact ⟨trB (by rw [HD.out, HH.out]; rfl), hbw⟩
  by_cases h7 : kids.length = lids.length
  case neg =>
   have HH := Lib.hid (hh.trans (decide_eq_false (fun q => h7 q.2.2.2.2.2.2)))
   have q7 : ((kids.length : Int) != (lids.length : Int)) = true := by simp; omega
   have r7 : ((kids.length : Int) == (lids.length : Int)) = false := by simp; omega
   rw [← h6] at hbw ⊢
   rcases off with _ | _
   ·clear hh h7 h6 hA hB hK hL hoff
    go_enter Tryz.func10, Tryz.ntmps10
    go_wp2
    go_ret
    exact ⟨trB (by rw [HD.out, HH.out]; rfl), hbw⟩
   ·have q5 := (hoff rfl).1
    clear hh h7 h6 hA hB hK hL hoff
    go_enter Tryz.func10, Tryz.ntmps10
    go_wp2
    go_ret
    exact ⟨trB (by rw [HD.out, HH.out]; rfl), hbw⟩
  have hh1 := hh.trans (decide_eq_true ⟨rfl, rfl, rfl, rfl, fun e => (hoff e).2, h6, h7⟩)
  have HR : n.eqB off m = (allEq off al bl && eqsB off kids lids) := by rw [HD.out, hh1]; rfl
  rw [← h6, ← h7]
  exact EM off rfl w k1 s1 n1 t1 a1 a2 al bl kids lids pa pk qa qk ca ck da dk _ HR (fun e => (hoff e).1) h6 h7 HKM.out hkl hal hA hK hB hL
end
section
open Go.RowKit
theorem KidsAt.cells {w : World} {p : Option Addr} {l : List NodeD} (h : KidsAt w p 0 l) (i : Nat) (hi : i < l.length) : ∃ a pa ca pk ck, p = some a ∧ (w.cell? (a.add (i * 7)) = some (.int .i64 l[i].kind) ∧ w.cell? ((a.add (i * 7)).add 1) = some (.string l[i].sp) ∧ w.cell? ((a.add (i * 7)).add 2) = some (.string l[i].nm) ∧ w.cell? ((a.add (i * 7)).add 3) = some (.slice pa l[i].al.length ca) ∧ w.cell? ((a.add (i * 7)).add 4) = some (.slice pk l[i].kids.length ck) ∧ w.cell? ((a.add (i * 7)).add 5) = some (.string l[i].tx) ∧ w.cell? ((a.add (i * 7)).add 6) = some (.int .i64 l[i].at')) ∧ NodeIs w l[i] (.agg #[.int .i64 l[i].kind, .string l[i].sp, .string l[i].nm, .slice pa l[i].al.length ca, .slice pk l[i].kids.length ck, .string l[i].tx, .int .i64 l[i].at']) := by
 obtain ⟨a, v0, v1, v2, v3, v4, v5, v6, hp, hc, hn⟩ := KidsAt.get l 0 h i hi
 rw [Nat.zero_add] at hc
 have hn' := hn
 rw [node_is] at hn
 obtain ⟨pa, ca, pk, ck, he, _, _⟩ := hn
 injection he with he
 have hcs : [v0, v1, v2, v3, v4, v5, v6] = [.int .i64 l[i].kind, .string l[i].sp, .string l[i].nm, .slice pa l[i].al.length ca, .slice pk l[i].kids.length ck, .string l[i].tx, .int .i64 l[i].at'] := by simpa using he
 simp only [List.cons.injEq, and_true] at hcs
 obtain ⟨rfl, rfl, rfl, rfl, rfl, rfl, rfl⟩ := hcs
 exact ⟨a, pa, ca, pk, ck, hp, hc, hn'⟩
theorem cnts_length : ∀ l : List NodeD, l.length ≤ cnts l
 | [] => Nat.le_refl _
 | k :: r => by
  rw [cnts, List.length_cons]
  have := cnt_eq k
  have := cnts_length r
  omega
end
section
open Go.RowKit
def holes (w : World) (L : List Nat) : World := { w with heap := w.heap.mapIdx fun k o => if k ∈ L then .cells #[] 0 (0, 0) else o }
theorem holes_size (w : World) (L : List Nat) : (holes w L).heap.size = w.heap.size := by simp [holes]
theorem holes_ne (w : World) (L : List Nat) (k : Nat) (h : k ∉ L) : (holes w L).heap[k]? = w.heap[k]? := by
 simp [holes, Array.getElem?_mapIdx, h]
theorem holes_in (w : World) (L : List Nat) (k : Nat) (h : k ∈ L) (hk : k < w.heap.size) : (holes w L).heap[k]? = some (.cells #[] 0 (0, 0)) := by
 simp [holes, h, hk]
theorem holes_cell {w : World} {L : List Nat} {a : Addr} {v : Value} (h : (holes w L).cell? a = some v) : w.cell? a = some v ∧ a.block ∉ L ∧ a.block < w.heap.size := by
 have hlt := kbl h
 rw [holes_size] at hlt
 have hne : a.block ∉ L := by
  intro e
  unfold World.cell? at h
  rw [holes_in w L _ e hlt] at h
  simp at h
 exact ⟨by rw [← World.cell?_of_block (holes_ne w L a.block hne)]; exact h, hne, hlt⟩
theorem holes_out {w : World} {L : List Nat} {a : Addr} (h : a.block ∉ L) : (holes w L).cell? a = w.cell? a := World.cell?_of_block (holes_ne w L a.block h)
def Goes (w : World) (L : List Nat) (w' : World) (L' : List Nat) : Prop := ∀ k, k < w.heap.size → k ∉ L → k ∉ L' ∧ w'.heap[k]? = w.heap[k]?
theorem Goes.refl (w : World) (L : List Nat) : Goes w L w L := fun _ _ h => ⟨h, rfl⟩
theorem Goes.trans {w w' w'' : World} {L L' L'' : List Nat} (h : Goes w L w' L') (h' : Goes w' L' w'' L'') (hz : w.heap.size ≤ w'.heap.size) : Goes w L w'' L'' := fun k hk hn => by
 obtain ⟨a, b⟩ := h k hk hn
 obtain ⟨c, d⟩ := h' k (by omega) a
 exact ⟨c, d.trans b⟩
theorem Goes.cell {w w' : World} {L L' : List Nat} (h : Goes w L w' L') (a : Addr) (v : Value) (hc : (holes w L).cell? a = some v) : (holes w' L').cell? a = some v := by
 obtain ⟨h1, h2, h3⟩ := holes_cell hc
 obtain ⟨h4, h5⟩ := h _ h3 h2
 rw [holes_out h4, World.cell?_of_block h5]
 exact h1
theorem Goes.app {w w' : World} {L L' : List Nat} (h : Goes w L w' L') (X : List Nat) : Goes w (L ++ X) w' (L' ++ X) := fun k hk hn => by
 obtain ⟨a, b⟩ := h k hk (fun e => hn (List.mem_append_left _ e))
 exact ⟨fun e => (List.mem_append.1 e).elim a (fun x => hn (List.mem_append_right _ x)), b⟩
theorem Goes.below {w w' : World} {L : List Nat} (h : Below w.heap.size w w') : Goes w L w' L := fun k hk hn => ⟨hn, h.block k hk⟩
theorem Goes.less {w : World} {L L' : List Nat} (h : ∀ k, k ∈ L' → k ∈ L) : Goes w L w L' := fun k _ hn => ⟨fun e => hn (h k e), rfl⟩
theorem Goes.more {w : World} {L L' : List Nat} (h : ∀ k, k ∈ L' → k ∈ L ∨ w.heap.size ≤ k) : Goes w L w L' := fun k hk hn => ⟨fun e => (h k e).elim hn (fun x => by omega), rfl⟩
theorem Goes.grown {w w' : World} {L : List Nat} {row : Option Nat} (h : w.grownBy w' row) (hr : ∀ k, row = some k → k ∈ L) : Goes w L w' L := fun k hk hn => ⟨hn, h.block k hk (fun e => hn (hr k e.symm))⟩
theorem Goes.set {w : World} {L : List Nat} {a : Addr} (h : a.block ∈ L) (u : Value) : Goes w L (w.setCell a u) L := fun k _ hn => ⟨hn, Below.heap_setCell w a u k (fun e => hn (e ▸ h))⟩
theorem Goes.keep {w w' : World} {p : Nat} {L : List Nat} (h : Keep p w w') (hp : p ∈ L) : Goes w L w' L := fun k hk hn => ⟨hn, h.block k hk (fun e => hn (e ▸ hp))⟩
theorem AttrsAt.mono {w w' : World} (hm : ∀ a v, w.cell? a = some v → w'.cell? a = some v) {p : Option Addr} {l : List AttrD} (h : AttrsAt w p l) : AttrsAt w' p l := by
 intro i hi
 obtain ⟨a, ha, h0, h1, h2, h3⟩ := h i hi
 exact ⟨a, ha, hm _ _ h0, hm _ _ h1, hm _ _ h2, hm _ _ h3⟩
mutual
theorem NodeIs.mono {w w' : World} (hm : ∀ a v, w.cell? a = some v → w'.cell? a = some v) : ∀ (n : NodeD) (v : Value), NodeIs w n v → NodeIs w' n v
 | .mk kind sp nm al kids tx at', v, h => by
  rw [NodeIs] at h ⊢
  obtain ⟨pa, ca, pk, ck, rfl, ha, hk⟩ := h
  exact ⟨pa, ca, pk, ck, rfl, ha.mono hm, KidsAt.mono hm kids pk 0 hk⟩
theorem KidsAt.mono {w w' : World} (hm : ∀ a v, w.cell? a = some v → w'.cell? a = some v) : ∀ (l : List NodeD) (p : Option Addr) (i : Nat), KidsAt w p i l → KidsAt w' p i l
 | [], p, i, _ => by rw [KidsAt]; trivial
 | k :: r, p, i, h => by
  rw [KidsAt] at h ⊢
  obtain ⟨⟨a, v0, v1, v2, v3, v4, v5, v6, hp, ⟨h0, h1, h2, h3, h4, h5, h6⟩, hn⟩, hr⟩ := h
  exact ⟨⟨a, v0, v1, v2, v3, v4, v5, v6, hp, ⟨hm _ _ h0, hm _ _ h1, hm _ _ h2, hm _ _ h3, hm _ _ h4, hm _ _ h5, hm _ _ h6⟩, NodeIs.mono hm k _ hn⟩, KidsAt.mono hm r p (i + 1) hr⟩
end
theorem NodeIs.go {w w' : World} {L L' : List Nat} {n : NodeD} {v : Value} (h : NodeIs (holes w L) n v) (hg : Goes w L w' L') : NodeIs (holes w' L') n v := NodeIs.mono (fun a u => hg.cell a u) n v h
theorem AttrsAt.go {w w' : World} {L L' : List Nat} {p : Option Addr} {l : List AttrD} (h : AttrsAt (holes w L) p l) (hg : Goes w L w' L') : AttrsAt (holes w' L') p l := h.mono (fun a u => hg.cell a u)
theorem NodeIs.full {w : World} {L : List Nat} {n : NodeD} {v : Value} (h : NodeIs (holes w L) n v) : NodeIs w n v := NodeIs.mono (fun _ _ hc => (holes_cell hc).1) n v h
def KRow (wc : World) : List NodeD → List Value → Prop
 | [], xs => xs = []
 | k :: r, xs => ∃ v0 v1 v2 v3 v4 v5 v6 ys, xs = v0 :: v1 :: v2 :: v3 :: v4 :: v5 :: v6 :: ys ∧ NodeIs wc k (.agg #[v0, v1, v2, v3, v4, v5, v6]) ∧ KRow wc r ys
theorem KRow.go {w w' : World} {L L' : List Nat} (hg : Goes w L w' L') : ∀ (l : List NodeD) (xs : List Value), KRow (holes w L) l xs → KRow (holes w' L') l xs
 | [], _, h => h
 | k :: r, xs, h => by
  obtain ⟨v0, v1, v2, v3, v4, v5, v6, ys, e, hn, hr⟩ := h
  exact ⟨v0, v1, v2, v3, v4, v5, v6, ys, e, hn.go hg, KRow.go hg r ys hr⟩
theorem KRow.len {wc : World} : ∀ (l : List NodeD) (xs : List Value), KRow wc l xs → xs.length = l.length * 7
 | [], xs, h => by rw [KRow] at h; subst h; rfl
 | k :: r, xs, h => by
  obtain ⟨v0, v1, v2, v3, v4, v5, v6, ys, rfl, _, hr⟩ := h
  have := KRow.len r ys hr
  simp only [List.length_cons]
  omega
theorem KRow.snoc {wc : World} {k : NodeD} {v0 v1 v2 v3 v4 v5 v6 : Value} (hk : NodeIs wc k (.agg #[v0, v1, v2, v3, v4, v5, v6])) : ∀ (l : List NodeD) (xs : List Value), KRow wc l xs → KRow wc (l ++ [k]) (xs ++ [v0, v1, v2, v3, v4, v5, v6])
 | [], xs, h => by
  rw [KRow] at h
  subst h
  exact ⟨v0, v1, v2, v3, v4, v5, v6, [], rfl, hk, rfl⟩
 | x :: r, xs, h => by
  obtain ⟨u0, u1, u2, u3, u4, u5, u6, ys, rfl, hn, hr⟩ := h
  exact ⟨u0, u1, u2, u3, u4, u5, u6, ys ++ [v0, v1, v2, v3, v4, v5, v6], rfl, hn, KRow.snoc hk r ys hr⟩
theorem KRow.last {wc : World} {k : NodeD} : ∀ (l : List NodeD) (xs : List Value), KRow wc (l ++ [k]) xs → ∃ ys v0 v1 v2 v3 v4 v5 v6, xs = ys ++ [v0, v1, v2, v3, v4, v5, v6] ∧ KRow wc l ys ∧ NodeIs wc k (.agg #[v0, v1, v2, v3, v4, v5, v6])
 | [], xs, h => by
  obtain ⟨v0, v1, v2, v3, v4, v5, v6, ys, rfl, hn, hr⟩ := h
  rw [KRow] at hr
  subst hr
  exact ⟨[], v0, v1, v2, v3, v4, v5, v6, rfl, rfl, hn⟩
 | x :: r, xs, h => by
  obtain ⟨u0, u1, u2, u3, u4, u5, u6, ys, rfl, hn, hr⟩ := h
  obtain ⟨zs, v0, v1, v2, v3, v4, v5, v6, rfl, hr', hk⟩ := KRow.last r ys hr
  exact ⟨u0 :: u1 :: u2 :: u3 :: u4 :: u5 :: u6 :: zs, v0, v1, v2, v3, v4, v5, v6, rfl, ⟨u0, u1, u2, u3, u4, u5, u6, zs, rfl, hn, hr'⟩, hk⟩
theorem KRow.kids {wc w : World} (hm : ∀ a v, wc.cell? a = some v → w.cell? a = some v) {g : Nat} : ∀ (l : List NodeD) (xs : List Value) (i : Nat), KRow wc l xs → (∀ j u, xs[j]? = some u → w.cell? ⟨g, i * 7 + j, none⟩ = some u) → KidsAt w (some ⟨g, 0, none⟩) i l
 | [], _, i, _, _ => by rw [KidsAt]; trivial
 | k :: r, xs, i, h, hc => by
  obtain ⟨v0, v1, v2, v3, v4, v5, v6, ys, rfl, hn, hr⟩ := h
  rw [KidsAt]
  have ha : ∀ o, (⟨g, 0, none⟩ : Addr).add o = ⟨g, o, none⟩ := fun o => by unfold Addr.add; split <;> simp_all
  have hb : ∀ o q, (⟨g, o, none⟩ : Addr).add q = ⟨g, o + q, none⟩ := fun o q => by unfold Addr.add; split <;> simp_all
  refine ⟨⟨⟨g, 0, none⟩, v0, v1, v2, v3, v4, v5, v6, rfl, ?_, NodeIs.mono hm k _ hn⟩, KRow.kids hm r ys (i + 1) hr (fun j u hu => ?_)⟩
  ·rw [ha]
   simp only [hb]
   exact ⟨hc 0 v0 rfl, hc 1 v1 rfl, hc 2 v2 rfl, hc 3 v3 rfl, hc 4 v4 rfl, hc 5 v5 rfl, hc 6 v6 rfl⟩
  ·have := hc (7 + j) u (by rw [show 7 + j = j + 1 + 1 + 1 + 1 + 1 + 1 + 1 by omega]; simpa using hu)
   rw [show (i + 1) * 7 + j = i * 7 + (7 + j) by omega]
   exact this
theorem row_kids {w : World} {L L' : List Nat} {B : Nat} {T : TypeId} {v : Value} {xs : List Value} {l : List NodeD} (hr : w.ownsRow B T 7 v l.length xs) (hk : KRow (holes w L) l xs) (hL : ∀ k, k ∈ L' → k ∈ L) (hg : ∀ g, v.ownBlock = some g → g ∉ L') : ∃ p c, v = .slice p l.length c ∧ KidsAt (holes w L') p 0 l := by
 have hm : ∀ a u, (holes w L).cell? a = some u → (holes w L').cell? a = some u := fun a u h => (Goes.less hL).cell a u h
 rcases hr.2 with ⟨rfl, h0⟩ | ⟨g, cap, cur, rfl, _, hh, _⟩
 ·have : l = [] := List.length_eq_zero_iff.1 h0
  subst this
  exact ⟨none, 0, rfl, by rw [KidsAt]; trivial⟩
 ·refine ⟨_, cap, rfl, KRow.kids hm l xs 0 hk (fun j u hu => ?_)⟩
  have hc := hr.cells (g := g) rfl j u hu
  rw [show (⟨g, 0, none⟩ : Addr).add j = ⟨g, j, none⟩ by unfold Addr.add; split <;> simp_all] at hc
  rw [show 0 * 7 + j = j by omega, holes_out (show (⟨g, j, none⟩ : Addr).block ∉ L' from hg g rfl)]
  exact hc
end
section
open Go.RowKit
def blankB (l : List UInt8) : Bool := l.all spB
theorem blank_step (l : List UInt8) (i : Nat) (h : i < l.length) : blankB (l.drop i) = (spB l[i] && blankB (l.drop (i + 1))) := by
 unfold blankB; rw [List.drop_eq_getElem_cons h, List.all_cons]
theorem blank_end (l : List UInt8) (i : Nat) (h : l.length ≤ i) : blankB (l.drop i) = true := by
 unfold blankB; rw [List.drop_eq_nil_of_le h]; rfl
set_option maxHeartbeats 2000000 in
theorem tref_Blank (s : ByteArray) (w : World) (hs : s.size ≤ 1000000000) :
  Calls Tryz.prog 32 #[.string s] w fun e w' => e = .returned (.bool (blankB s.data.toList)) ∧ w = w' := by
 have hsl : s.data.toList.length = s.size := by simp
 have HSL := Lib.hid hsl
 clear hsl
 go_enter Tryz.func32, Tryz.ntmps32
 go_wp2
 go_loop [3] (fun q => ∃ k : Nat, k ≤ 2000000000 ∧ q = .int .i64 k ∧ blankB s.data.toList = blankB (s.data.toList.drop k)) (fun q => s.size - (intOf q).toNat)
 case atStart => exact ⟨0, by decide, rfl, rfl⟩
 case round =>
  obtain ⟨k, hk, rfl, hrel⟩ := hrel
  by_cases hlt : k < s.size
  ·have hkl : k < s.data.toList.length := by have := HSL.out; omega
   obtain ⟨x, hx⟩ : ∃ x, s[k]'hlt = x := ⟨_, rfl⟩
   have hxl : s.data.toList[k]'hkl = x := by rw [← hx]; simp [ByteArray.getElem_eq_getElem_data]
   have cS : ∀ wx, _ := fun wx => ref_IsSpace (x.toNat : Int) wx
   have hkz : (k : Int) < (s.size : Int) := by omega
   rw [blank_step _ _ hkl, hxl] at hrel
   rcases hsp : spB x with _ | _
   ·have HV := Lib.hid (show blankB s.data.toList = false by rw [hrel, hsp]; rfl)
    rw [show isSpaceB (x.toNat : Int) = false from hsp] at cS
    clear hrel hxl hsp
    (go_wp2_with fail); (refine (cS _).mono ?_); (rintro e w' ⟨rfl, rfl⟩)
    go_wp2
    go_ret
    exact ⟨kretB (by rw [HV.out]), rfl⟩
   ·have HV := Lib.hid (show blankB s.data.toList = blankB (s.data.toList.drop (k + 1)) by rw [hrel, hsp]; rfl)
    rw [show isSpaceB (x.toNat : Int) = true from hsp] at cS
    clear hrel hxl hsp
    (go_wp2_with fail); (refine (cS _).mono ?_); (rintro e w' ⟨rfl, rfl⟩)
    go_wp2
    go_round
    case rel => exact ⟨k + 1, by omega, by go_num, HV.out⟩
    case measure => simp [intOf]; omega
  ·have HV := Lib.hid (hrel.trans (blank_end s.data.toList k (by have := HSL.out; omega)))
   have hkz : ¬ (k : Int) < (s.size : Int) := by omega
   clear hrel
   go_wp2
   go_ret
   exact ⟨kretB (by rw [HV.out]), rfl⟩
end
section
open Go.RowKit
def noB : ByteArray := ⟨#[]⟩
def zeroN : NodeD := .mk 0 noB noB [] [] noB 0
def charN (u : TokD) : NodeD := .mk 1 noB noB [] [] (oB u.tx) u.at'
def moreN (u : TokD) : NodeD → NodeD
 | .mk k s n al ks tx a => .mk k s n al ks (tx ++ oB u.tx) a
def addChar (kids : List NodeD) (u : TokD) : List NodeD :=
 match kids.getLast? with
 | some k => if k.kind = 1 then kids.dropLast ++ [moreN u k] else kids ++ [charN u]
 | none => [charN u]
def elemN (t : TokD) (kids : List NodeD) : NodeD := .mk 0 noB (oB t.nm) t.al kids noB t.at'
mutual
def elP (l : List TokD) (z : Int) : Nat → Nat → Nat → NodeD × Nat × Int × Int
 | 0, _, i => (zeroN, i, 0, 0)
 | f + 1, d, i =>
  match l[i]? with
  | none => (zeroN, i, 0, 0)
  | some t => if d > 100 then (zeroN, i, t.at', 9) else if t.em then (elemN t [], i + 1, 0, 0) else kidsP l z f d t (i + 1) []
def kidsP (l : List TokD) (z : Int) : Nat → Nat → TokD → Nat → List NodeD → NodeD × Nat × Int × Int
 | 0, _, _, i, _ => (zeroN, i, 0, 0)
 | f + 1, d, t, i, kids =>
  match l[i]? with
  | none => (zeroN, i, z, 8)
  | some u =>
   if u.kind = 2 then (if u.nm ≠ t.nm then (zeroN, i, u.at', 14) else (elemN t kids, i + 1, 0, 0))
   else if u.kind = 1 then
    (let r := elP l z f (d + 1) i
     if r.2.2.2 ≠ 0 then r else kidsP l z f d t r.2.1 (kids ++ [r.1]))
   else kidsP l z f d t (i + 1) (addChar kids u)
end
def Par (w : World) (p : Nat) (A : Option Addr) (n c : Nat) (i at' e : Int) : Prop := w.heap[p]? = some (.cells #[.slice A n c, .int .i64 i, .int .i64 at', .int .i64 e] 72 (0, 0))
theorem Par.lt {w : World} {p : Nat} {A : Option Addr} {n c : Nat} {i a e : Int} (h : Par w p A n c i a e) : p < w.heap.size := (Array.getElem?_eq_some_iff.1 h).1
theorem Par.cells {w : World} {p : Nat} {A : Option Addr} {n c : Nat} {i a e : Int} (h : Par w p A n c i a e) : w.cell? ⟨p, 0, none⟩ = some (.slice A n c) ∧ w.cell? ⟨p, 1, none⟩ = some (.int .i64 i) ∧ w.cell? ⟨p, 2, none⟩ = some (.int .i64 a) ∧ w.cell? ⟨p, 3, none⟩ = some (.int .i64 e) := by
 refine ⟨?_, ?_, ?_, ?_⟩ <;> (rw [cell_of_row w p _ _ _ _ h]; rfl)
theorem Par.frz {w : World} {p : Nat} {A : Option Addr} {n c : Nat} {i a e : Int} (h : Par w p A n c i a e) (j : Nat) : w.frozen? ⟨p, j, none⟩ = false := frozen_of_row w p j _ _ h
theorem Par.keep {w w' : World} {p : Nat} {A : Option Addr} {n c : Nat} {i a e : Int} (h : Par w p A n c i a e) (hb : Below w.heap.size w w') : Par w' p A n c i a e := (hb.block p h.lt).trans h
theorem Par.set1 {w : World} {p : Nat} {A : Option Addr} {n c : Nat} {i a e : Int} (h : Par w p A n c i a e) (j : Int) : Par (w.setCell ⟨p, 1, none⟩ (.int .i64 j)) p A n c j a e := by
 unfold Par at *
 rw [heap_setCell_same w p 1 _ _ _ h]
 rfl
theorem Par.set2 {w : World} {p : Nat} {A : Option Addr} {n c : Nat} {i a e : Int} (h : Par w p A n c i a e) (j : Int) : Par (w.setCell ⟨p, 2, none⟩ (.int .i64 j)) p A n c i j e := by
 unfold Par at *
 rw [heap_setCell_same w p 2 _ _ _ h]
 rfl
theorem Par.set3 {w : World} {p : Nat} {A : Option Addr} {n c : Nat} {i a e : Int} (h : Par w p A n c i a e) (j : Int) : Par (w.setCell ⟨p, 3, none⟩ (.int .i64 j)) p A n c i a j := by
 unfold Par at *
 rw [heap_setCell_same w p 3 _ _ _ h]
 rfl
theorem Par.own {w : World} {p : Nat} {A : Option Addr} {n c : Nat} {i a e : Int} (h : Par w p A n c i a e) {q : Addr} (hq : q.block ≠ p) (u : Value) : Par (w.setCell q u) p A n c i a e := (Below.heap_setCell w q u p (fun x => hq x.symm)).trans h
def zeroV : Value := .agg #[.int .i64 0, .string ⟨#[]⟩, .string ⟨#[]⟩, .slice none 0 0, .slice none 0 0, .string ⟨#[]⟩, .int .i64 0]
theorem zero_is (w : World) : NodeIs w zeroN zeroV := by
 rw [zeroN, NodeIs]
 exact ⟨none, 0, none, 0, rfl, fun i h => absurd h (Nat.not_lt_zero _), by rw [KidsAt]; trivial⟩
end
section
open Go.RowKit
def addKid (k : NodeD) : NodeD → NodeD
 | .mk kd s n al ks tx a => .mk kd s n al (ks ++ [k]) tx a
def charK (l : List UInt8) (a : Int) : NodeD := .mk 1 noB noB [] [] (oB l) a
structure Mac where
 top : NodeD
 up : List NodeD
 data : List UInt8
 dat : Int
def mac0 : Mac := ⟨zeroN, [], [], 0⟩
def flushM (m : Mac) : Mac := if m.data = [] then m else { m with top := addKid (charK m.data m.dat) m.top, data := [] }
def startM (m : Mac) (t : TokD) : Mac × Int :=
 if m.up = [] ∧ m.top.kids ≠ [] then (m, 17)
 else if 100 < m.up.length + 1 then (m, 9)
 else if t.em then ({ flushM m with top := addKid (elemN t []) (flushM m).top }, 0)
 else ({ flushM m with top := elemN t [], up := (flushM m).top :: (flushM m).up }, 0)
def popM (m : Mac) : Mac :=
 match m.up with
 | [] => m
 | f :: r => { m with top := addKid m.top f, up := r }
def endM (m : Mac) (t : TokD) : Mac × Int :=
 if m.up = [] then (m, 14)
 else if m.top.nm ≠ oB t.nm then (m, 14)
 else (popM (flushM m), 0)
def textM (m : Mac) (t : TokD) : Mac × Int :=
 if m.up = [] then (if collapse t.tx = [] then (m, 0) else (m, 7))
 else ({ m with data := m.data ++ t.tx, dat := if m.data = [] then t.at' else m.dat }, 0)
def addM (m : Mac) (t : TokD) : Mac × Int := if t.kind = 1 then startM m t else if t.kind = 2 then endM m t else textM m t
def runM : Mac → List TokD → Mac × Int × Int
 | m, [] => (m, 0, 0)
 | m, t :: r => if (addM m t).2 ≠ 0 then ((addM m t).1, t.at', (addM m t).2) else runM (addM m t).1 r
def parseP (s : ByteArray) : NodeD × Int × Int :=
 if (toksP s).2.2 ≠ 0 then (zeroN, (toksP s).2.1, (toksP s).2.2)
 else if (runM mac0 (toksP s).1).2.2 ≠ 0 then (zeroN, (runM mac0 (toksP s).1).2.1, (runM mac0 (toksP s).1).2.2)
 else match (runM mac0 (toksP s).1).1.up, (runM mac0 (toksP s).1).1.top.kids with
  | [], k :: _ => (k, (s.size : Int), 0)
  | _, _ => (zeroN, (s.size : Int), 8)
def Bnd (m : Mac) (N : Nat) : Prop := m.top.kids.length ≤ N ∧ (∀ f ∈ m.up, f.kids.length ≤ N) ∧ m.up.length ≤ 100
theorem addKid_kids (k n : NodeD) : (addKid k n).kids = n.kids ++ [k] := by cases n; rfl
theorem flushM_up (m : Mac) : (flushM m).up = m.up := by unfold flushM; split <;> rfl
theorem flushM_data (m : Mac) : (flushM m).data = [] := by
 unfold flushM
 split
 ·assumption
 ·rfl
theorem Bnd.more {m : Mac} {N K : Nat} (h : Bnd m N) (hk : N ≤ K) : Bnd m K := ⟨by have := h.1; omega, fun f hf => by have := h.2.1 f hf; omega, h.2.2⟩
theorem Bnd.flush {m : Mac} {N : Nat} (h : Bnd m N) : Bnd (flushM m) (N + 1) := by
 unfold flushM
 split
 ·exact h.more (by omega)
 ·refine ⟨?_, fun f hf => by have := h.2.1 f hf; omega, h.2.2⟩
  show (addKid _ _).kids.length ≤ _
  rw [addKid_kids, List.length_append]
  have := h.1
  simp
  omega
theorem Bnd.add {m : Mac} {N : Nat} (t : TokD) (h : Bnd m N) : Bnd (addM m t).1 (N + 2) := by
 have hf := h.flush
 unfold addM
 split
 ·unfold startM
  split
  ·exact h.more (by omega)
  ·split
   ·exact h.more (by omega)
   ·rename_i hup
    split
    ·refine ⟨?_, fun f hh => by have := hf.2.1 f hh; omega, hf.2.2⟩
     show (addKid _ _).kids.length ≤ _
     rw [addKid_kids, List.length_append]
     have := hf.1
     simp
     omega
    ·refine ⟨by show ([] : List NodeD).length ≤ _; simp, fun f hh => ?_, ?_⟩
     ·rcases List.mem_cons.1 hh with rfl | hh
      ·have := hf.1; omega
      ·have := hf.2.1 f hh; omega
     ·show (_ :: (flushM m).up).length ≤ 100
      rw [List.length_cons, flushM_up]
      omega
 ·split
  ·unfold endM
   split
   ·exact h.more (by omega)
   ·split
    ·exact h.more (by omega)
    ·unfold popM
     show Bnd (match (flushM m).up with | [] => flushM m | f :: r => { flushM m with top := addKid (flushM m).top f, up := r }) (N + 2)
     cases hu : (flushM m).up with
     | nil => exact hf.more (by omega)
     | cons f r =>
      have h2 := hf.2.1
      have h3 := hf.2.2
      rw [hu] at h2 h3
      refine ⟨?_, fun g hg => by have := h2 g (List.mem_cons_of_mem _ hg); omega, by simp at h3; show r.length ≤ 100; omega⟩
      show (addKid _ _).kids.length ≤ _
      rw [addKid_kids, List.length_append]
      have := h2 f (List.mem_cons_self ..)
      simp
      omega
  ·unfold textM
   split
   ·split
    ·exact h.more (by omega)
    ·exact h.more (by omega)
   ·exact ⟨by have := h.1; show m.top.kids.length ≤ _; omega, fun f hh => by have := h.2.1 f hh; omega, h.2.2⟩
theorem add_data (m : Mac) (t : TokD) : (addM m t).1.data.length ≤ m.data.length + t.tx.length := by
 have hf : (flushM m).data.length = 0 := by rw [flushM_data]; rfl
 unfold addM
 split
 ·unfold startM
  split
  ·simp
  ·split
   ·simp
   ·split
    ·show (flushM m).data.length ≤ _; omega
    ·show (flushM m).data.length ≤ _; omega
 ·split
  ·unfold endM
   split
   ·simp
   ·split
    ·simp
    ·show (popM (flushM m)).data.length ≤ _
     unfold popM
     split <;> (show (flushM m).data.length ≤ _; omega)
  ·unfold textM
   split
   ·split <;> simp
   ·show (m.data ++ t.tx).length ≤ _; simp
def Node7 (w wc : World) (b o : Nat) (f : NodeD) (v : Value) : Prop := ∃ pa ca, (w.cell? ⟨b, o, none⟩ = some (.int .i64 f.kind) ∧ w.cell? ⟨b, o + 1, none⟩ = some (.string f.sp) ∧ w.cell? ⟨b, o + 2, none⟩ = some (.string f.nm) ∧ w.cell? ⟨b, o + 3, none⟩ = some (.slice pa f.al.length ca) ∧ w.cell? ⟨b, o + 4, none⟩ = some v ∧ w.cell? ⟨b, o + 5, none⟩ = some (.string f.tx) ∧ w.cell? ⟨b, o + 6, none⟩ = some (.int .i64 f.at')) ∧ AttrsAt wc pa f.al
def Up (w wc : World) (B pb : Nat) : List (Nat × Nat) → List NodeD → Prop
 | [a], [] => a.1 = pb ∧ a.2 = 0
 | a :: a' :: ads, f :: r => (a.1 ≠ pb ∧ ∃ cap xs c0 c1 c2 c3 c4 c5 c6, a.2 = f.kids.length * 7 ∧ Node7 w wc a'.1 a'.2 f (.slice (some ⟨a.1, 0, none⟩) (f.kids.length + 1) cap) ∧ w.ownsRow B 25 7 (.slice (some ⟨a.1, 0, none⟩) (f.kids.length + 1) cap) (f.kids.length + 1) (xs ++ [c0, c1, c2, c3, c4, c5, c6]) ∧ KRow wc f.kids xs) ∧ Up w wc B pb (a' :: ads) r
 | _, _ => False
def ptrs (ads : List (Nat × Nat)) : List Value := ads.reverse.map fun a => .pointer (some ⟨a.1, a.2, none⟩)
def nodesL (ads : List (Nat × Nat)) (v0 : Value) : List Nat := ads.map Prod.fst ++ v0.ownBlock.toList
def live (ads : List (Nat × Nat)) (v0 vo vd : Value) : List Nat := nodesL ads v0 ++ (vo.ownBlock.toList ++ vd.ownBlock.toList)
structure TI (w : World) (L : List Nat) (B pb : Nat) (top : NodeD) (up : List NodeD) (ads : List (Nat × Nat)) (v0 : Value) (xs : List Value) : Prop where
 nodup : (nodesL ads v0).Nodup
 top7 : ∃ a r, ads = a :: r ∧ Node7 w (holes w L) a.1 a.2 top v0
 row : w.ownsRow B 25 7 v0 top.kids.length xs
 kids : KRow (holes w L) top.kids xs
 up : Up w (holes w L) B pb ads up
structure BP (w : World) (B pb : Nat) (ads : List (Nat × Nat)) (data : List UInt8) (dat : Int) (vo vd p : Value) (c0 c1 c2 c3 c4 c5 c6 : Value) : Prop where
 low : B ≤ pb
 blk : Blk w pb #[c0, c1, c2, c3, c4, c5, c6, vo, p, vd, .int .i64 dat] 89
 addr : p = .pointer none ∨ p = .pointer (some ⟨pb, 8, none⟩)
 opn : w.ownsRow B 90 1 vo ads.length (ptrs ads)
 chars : w.ownsRowF B 5 1 vd data.length (Lib.byteCells data)
structure BI (X : List Nat) (w : World) (B pb : Nat) (m : Mac) (ads : List (Nat × Nat)) (v0 vo vd p : Value) (xs : List Value) : Prop where
 bp : ∃ c0 c1 c2 c3 c4 c5 c6, BP w B pb ads m.data m.dat vo vd p c0 c1 c2 c3 c4 c5 c6
 ti : TI w (live ads v0 vo vd ++ X) B pb m.top m.up ads v0 xs
 low : ∀ k ∈ X, k < B
theorem rowSame {w w' : World} {B : Nat} {e : TypeId} {k n : Nat} {v : Value} {xs : List Value} (h : w.ownsRow B e k v n xs) (hs : ∀ g, v.ownBlock = some g → w'.heap[g]? = w.heap[g]?) : w'.ownsRow B e k v n xs := by
 refine ⟨h.1, ?_⟩
 rcases h.2 with hn | ⟨g, cap, cur, rfl, hb, hg, rest⟩
 ·exact .inl hn
 ·exact .inr ⟨g, cap, cur, rfl, hb, (hs g rfl).trans hg, rest⟩
theorem rowFs {w w' : World} {B : Nat} {e : TypeId} {k n : Nat} {v : Value} {xs : List Value} (h : w.ownsRowF B e k v n xs) (hs : ∀ g, v.ownBlock = some g → w'.heap[g]? = w.heap[g]?) : w'.ownsRowF B e k v n xs := by
 refine ⟨h.1, ?_⟩
 rcases h.2 with hn | ⟨g, cap, cur, fz, rfl, hb, hg, rest⟩
 ·exact .inl hn
 ·exact .inr ⟨g, cap, cur, fz, rfl, hb, (hs g rfl).trans hg, rest⟩
theorem row_kind {w : World} {B : Nat} {e : TypeId} {k n : Nat} {v : Value} {xs : List Value} (h : w.ownsRow B e k v n xs) : ∀ g, v.ownBlock = some g → B ≤ g ∧ g < w.heap.size ∧ ∃ cs fz, w.heap[g]? = some (.cells cs e fz) := by
 intro g hg
 rcases h.2 with ⟨rfl, _⟩ | ⟨g', cap, cur, rfl, hb, hh, _⟩
 ·cases hg
 ·simp only [Value.ownBlock, Option.some.injEq] at hg
  subst hg
  exact ⟨hb, (Array.getElem?_eq_some_iff.1 hh).1, _, _, hh⟩
theorem rowF_kind {w : World} {B : Nat} {e : TypeId} {k n : Nat} {v : Value} {xs : List Value} (h : w.ownsRowF B e k v n xs) : ∀ g, v.ownBlock = some g → B ≤ g ∧ g < w.heap.size ∧ ∃ cs fz, w.heap[g]? = some (.cells cs e fz) := by
 intro g hg
 rcases h.2 with ⟨rfl, _⟩ | ⟨g', cap, cur, fz, rfl, hb, hh, _⟩
 ·cases hg
 ·simp only [Value.ownBlock, Option.some.injEq] at hg
  subst hg
  exact ⟨hb, (Array.getElem?_eq_some_iff.1 hh).1, _, _, hh⟩
theorem Node7.go {w w' : World} {L L' : List Nat} {b o : Nat} {f : NodeD} {v : Value} (h : Node7 w (holes w L) b o f v) (hg : Goes w L w' L') (hc : ∀ j, j < 7 → w'.cell? ⟨b, o + j, none⟩ = w.cell? ⟨b, o + j, none⟩) : Node7 w' (holes w' L') b o f v := by
 obtain ⟨pa, ca, ⟨h0, h1, h2, h3, h4, h5, h6⟩, ha⟩ := h
 exact ⟨pa, ca, ⟨(hc 0 (by decide)).trans h0, (hc 1 (by decide)).trans h1, (hc 2 (by decide)).trans h2, (hc 3 (by decide)).trans h3, (hc 4 (by decide)).trans h4, (hc 5 (by decide)).trans h5, (hc 6 (by decide)).trans h6⟩, ha.go hg⟩
theorem Up.head {w wc : World} {B pb : Nat} {a : Nat × Nat} {ads : List (Nat × Nat)} {up : List NodeD} (h : Up w wc B pb (a :: ads) up) : (a.1 = pb ∧ a.2 = 0 ∧ ads = [] ∧ up = []) ∨ (a.1 ≠ pb ∧ ads ≠ [] ∧ up ≠ []) := by
 match ads, up, h with
 | [], [], h => exact .inl ⟨h.1, h.2, rfl, rfl⟩
 | _ :: _, _ :: _, h => exact .inr ⟨h.1.1, by simp, by simp⟩
 | [], _ :: _, h => exact h.elim
 | _ :: _, [], h => exact h.elim
theorem Up.mem {w wc : World} {B pb : Nat} : ∀ (ads : List (Nat × Nat)) (up : List NodeD), Up w wc B pb ads up → (∃ x, (pb, x) ∈ ads) ∧ ads.length = up.length + 1
 | [a], [], h => ⟨⟨a.2, by rw [← h.1]; simp⟩, rfl⟩
 | a :: a' :: ads, f :: r, h => by
  obtain ⟨⟨x, hx⟩, hl⟩ := Up.mem (a' :: ads) r h.2
  exact ⟨⟨x, List.mem_cons_of_mem _ hx⟩, by simp only [List.length_cons] at hl ⊢; omega⟩
 | [], _, h => by cases ‹List NodeD› <;> exact h.elim
 | [_], _ :: _, h => h.elim
 | _ :: _ :: _, [], h => h.elim
theorem here_cells {w w' : World} {pb : Nat} {a : Nat × Nat} (hp : ∀ j, j < 7 → w'.cell? ⟨pb, j, none⟩ = w.cell? ⟨pb, j, none⟩) (hs : a.1 ≠ pb → w'.heap[a.1]? = w.heap[a.1]?) (h : (a.1 = pb ∧ a.2 = 0) ∨ a.1 ≠ pb) : ∀ j, j < 7 → w'.cell? ⟨a.1, a.2 + j, none⟩ = w.cell? ⟨a.1, a.2 + j, none⟩ := by
 intro j hj
 rcases h with ⟨h1, h2⟩ | h
 ·rw [h1, h2, Nat.zero_add]; exact hp j hj
 ·exact World.cell?_of_block (w := w) (hs h)
theorem Up.go {w w' : World} {L L' : List Nat} {B pb : Nat} (hg : Goes w L w' L') (hp : ∀ j, j < 7 → w'.cell? ⟨pb, j, none⟩ = w.cell? ⟨pb, j, none⟩) : ∀ (ads : List (Nat × Nat)) (up : List NodeD), (∀ a ∈ ads, a.1 ≠ pb → w'.heap[a.1]? = w.heap[a.1]?) → Up w (holes w L) B pb ads up → Up w' (holes w' L') B pb ads up
 | [a], [], _, h => h
 | a :: a' :: ads, f :: r, hs, h => by
  obtain ⟨⟨hne, cap, xs, c0, c1, c2, c3, c4, c5, c6, ho, h7, hr, hk⟩, hu⟩ := h
  have hh := Up.head hu
  refine ⟨⟨hne, cap, xs, c0, c1, c2, c3, c4, c5, c6, ho, h7.go hg (here_cells hp (hs a' (by simp)) (hh.imp (fun x => ⟨x.1, x.2.1⟩) (fun x => x.1))), rowSame hr (fun g hv => ?_), KRow.go hg _ _ hk⟩, Up.go hg hp (a' :: ads) r (fun b hb => hs b (List.mem_cons_of_mem _ hb)) hu⟩
  simp only [Value.ownBlock, Option.some.injEq] at hv
  subst hv
  exact hs a (by simp) hne
 | [], _, _, h => by cases ‹List NodeD› <;> exact h.elim
 | [_], _ :: _, _, h => h.elim
 | _ :: _ :: _, [], _, h => h.elim
theorem TI.go {w w' : World} {L L' : List Nat} {B pb : Nat} {top : NodeD} {up : List NodeD} {ads : List (Nat × Nat)} {v0 : Value} {xs : List Value} (h : TI w L B pb top up ads v0 xs) (hg : Goes w L w' L') (hp : ∀ j, j < 7 → w'.cell? ⟨pb, j, none⟩ = w.cell? ⟨pb, j, none⟩) (hs : ∀ k ∈ nodesL ads v0, k ≠ pb → w'.heap[k]? = w.heap[k]?) (h0 : ∀ g, v0.ownBlock = some g → g ≠ pb) : TI w' L' B pb top up ads v0 xs := by
 obtain ⟨hn, ⟨a, r, rfl, h7⟩, hr, hk, hu⟩ := h
 have hs' : ∀ b ∈ a :: r, b.1 ≠ pb → w'.heap[b.1]? = w.heap[b.1]? := fun b hb => hs b.1 (List.mem_append_left _ (List.mem_map_of_mem hb))
 refine ⟨hn, ⟨a, r, rfl, h7.go hg (here_cells hp (hs' a (by simp)) (hu.head.imp (fun x => ⟨x.1, x.2.1⟩) (fun x => x.1)))⟩, rowSame hr (fun g hv => hs g (List.mem_append_right _ (by rw [hv]; simp)) (h0 g hv)), KRow.go hg _ _ hk, Up.go hg hp _ _ hs' hu⟩
theorem TI.kind {w : World} {L : List Nat} {B pb : Nat} {top : NodeD} {up : List NodeD} {ads : List (Nat × Nat)} {v0 : Value} {xs : List Value} (h : TI w L B pb top up ads v0 xs) : ∀ k ∈ nodesL ads v0, k = pb ∨ (B ≤ k ∧ k < w.heap.size ∧ ∃ cs fz, w.heap[k]? = some (.cells cs 25 fz)) := by
 obtain ⟨_, _, hr, _, hu⟩ := h
 have hA : ∀ (ads : List (Nat × Nat)) (up : List NodeD), Up w (holes w L) B pb ads up → ∀ k ∈ ads.map Prod.fst, k = pb ∨ (B ≤ k ∧ k < w.heap.size ∧ ∃ cs fz, w.heap[k]? = some (.cells cs 25 fz)) := by
  intro ads
  induction ads with
  | nil => intro up h k hk; simp at hk
  | cons a r ih =>
   intro up h k hk
   match r, up, h, ih with
   | [], [], h, _ =>
    simp only [List.map_cons, List.map_nil, List.mem_singleton] at hk
    exact .inl (hk.trans h.1)
   | a' :: ads, f :: r, h, ih =>
    rw [List.map_cons] at hk
    rcases List.mem_cons.1 hk with rfl | hk
    ·obtain ⟨⟨_, cap, xs, c0, c1, c2, c3, c4, c5, c6, _, _, hr, _⟩, _⟩ := h
     exact .inr (row_kind hr _ rfl)
    ·exact ih r h.2 k hk
   | [], _ :: _, h, _ => exact h.elim
   | _ :: _, [], h, _ => exact h.elim
 intro k hk
 rcases List.mem_append.1 hk with hk | hk
 ·exact hA _ _ hu k hk
 ·cases hv : v0.ownBlock with
  | none => rw [hv] at hk; simp at hk
  | some g =>
   rw [hv] at hk
   simp at hk
   subst hk
   exact .inr (row_kind hr _ hv)
end
section
open Go.RowKit
theorem rowF_base {w : World} {B B' : Nat} {e : TypeId} {k n : Nat} {v : Value} {xs : List Value} (h : w.ownsRowF B' e k v n xs) (hb : B ≤ B') : w.ownsRowF B e k v n xs := by
 refine ⟨h.1, ?_⟩
 rcases h.2 with hn | ⟨g, cap, cur, fz, rfl, hB, rest⟩
 ·exact .inl hn
 ·exact .inr ⟨g, cap, cur, fz, rfl, by omega, rest⟩
theorem append_str_at {P : Program} (w : World) (base : Nat) (t u ty e : TypeId) (i : TypeInfo) (ht : P.underlying t = some (.slice e)) (hu : P.underlying u = some .string) (hi : P.info? e = some i) (hz : i.zero = some (.int .u8 0)) (hsize : i.size = 1) (hby : i.bytes = 1)
  (v : Value) (n : Nat) (xs : List Value) (hown : w.ownsRowF base e 1 v n xs) (s : ByteArray) (hbytes : n + s.size ≤ 140737488355328) (hbase : base ≤ w.heap.size) :
  ∃ v' w', (Builtin.append_ #[t, u] ty #[v, .string s]).run P w = .ok v' w' ∧ w'.ownsRowF base e 1 v' (n + s.size) (xs ++ Lib.strCells s) ∧ w.grownBy w' v.ownBlock ∧ ∀ k, v'.ownBlock = some k → v.ownBlock = some k ∨ w.heap.size ≤ k := by
 have h63 : n + s.size ≤ maxLen := by unfold maxLen; omega
 rcases hown.2 with ⟨rfl, rfl⟩ | ⟨g, cap, cur, fz, rfl, hbg, hg, hfz, hnc, hcm, hcs, htake⟩
 ·obtain ⟨v', w', h1, h2, h3, _⟩ := Lib.run_append_own_stringF (P := P) w w.heap.size t u ty e i ht hu hi hz hsize hby (.slice none 0 0) 0 xs ⟨hown.1, .inl ⟨rfl, rfl⟩⟩ s h63 hbytes (Nat.le_refl _)
  exact ⟨v', w', h1, rowF_base h2 hbase, h3, fun k hk => .inr (rowF_kind h2 k hk).1⟩
 ·obtain ⟨v', w', h1, h2, h3, _⟩ := Lib.run_append_own_stringF (P := P) w base t u ty e i ht hu hi hz hsize hby _ n xs hown s h63 hbytes hbase
  refine ⟨v', w', h1, h2, h3, fun k hk => ?_⟩
  by_cases hroom : n + s.size ≤ cap
  ·have hr := Lib.run_append_room_stringF (P := P) w t u ty e i ht hu hi hsize g n cap cur fz hg (by simpa using hfz) s hroom (by simp at hcs; omega)
   rw [h1] at hr
   injection hr with hr _
   rw [hr] at hk
   exact .inl hk
  ·have hxl : xs.length = n := by simpa using hown.1
   have hr := Lib.run_append_grow_string (P := P) w t u ty e i (.int .u8 0) ht hu hi hz ⟨g, 0, none⟩ n cap xs (by rw [hsize]; simpa using hxl) (hown.cells (g := g) rfl) s (by omega) (by unfold maxLen at h63; omega) (by rw [hby]; exact growslice_fits (by omega) (by omega))
   rw [h1] at hr
   injection hr with hr _
   rw [hr] at hk
   simp only [Value.ownBlock, Option.some.injEq] at hk
   exact .inr (by omega)
theorem wpList_append_str_at {P : Program} (w : World) {ops : Array Oper} {rest : List Oper} {o : Oper} {a : Act} {Q : Exit → Act → World → Prop} (hgd : o.guard = none) (sl x : Operand) (t u : TypeId)
  (ho : o.op = .call { callee := .builtin .append, args := #[sl, x], argTypes := #[t, u] })
  (base : Nat) (e : TypeId) (i : TypeInfo) (ht : P.underlying t = some (.slice e)) (hu : P.underlying u = some .string) (hi : P.info? e = some i) (hz : i.zero = some (.int .u8 0)) (hsize : i.size = 1) (hby : i.bytes = 1)
  (v : Value) (n : Nat) (xs : List Value) (hs : a.eval sl = v) (hown : w.ownsRowF base e 1 v n xs) (s : ByteArray) (hx : a.eval x = .string s) (hbytes : n + s.size ≤ 140737488355328) (hbase : base ≤ w.heap.size)
  (h : ∀ v' w', w'.ownsRowF base e 1 v' (n + s.size) (xs ++ Lib.strCells s) → w.grownBy w' v.ownBlock → (∀ k, v'.ownBlock = some k → v.ownBlock = some k ∨ w.heap.size ≤ k) → wpList P ops Q rest (a.put o.dst v') w') : wpList P ops Q (o :: rest) a w := by
 refine wpList_plain hgd fun K hK => ?_
 obtain ⟨v', w', hr, h2, h3, h4⟩ := append_str_at (P := P) w base t u o.type e i ht hu hi hz hsize hby v n xs hown s hbytes hbase
 unfold Oper.wp execOp
 simp only [ho, resolve, invoke, builtin, Sem.run_bind, Sem.run_pure, Result.andThen_ok, List.map_toArray, List.map_cons, List.map_nil, hs, hx, hr]
 exact hK _ _ (h v' w' h2 h3 h4)
structure Chg (pb : Nat) (v v' : Value) (w w' : World) : Prop where
 os : w'.os = w.os
 tape : w'.tape = w.tape
 output : w'.output = w.output
 size : w.heap.size ≤ w'.heap.size
 block : ∀ k, k < w.heap.size → k ≠ pb → some k ≠ v.ownBlock → w'.heap[k]? = w.heap[k]?
 own : ∀ k, v'.ownBlock = some k → v.ownBlock = some k ∨ w.heap.size ≤ k
theorem Chg.below {B pb : Nat} {v v' : Value} {w w' : World} (h : Chg pb v v' w w') (hp : B ≤ pb) (hv : ∀ k, v.ownBlock = some k → B ≤ k) (hB : B ≤ w.heap.size) : Below B w w' :=
 ⟨h.os, h.tape, h.output, h.size, fun k hk => h.block k (by omega) (by omega) (fun e => by have := hv k e.symm; omega)⟩
theorem Chg.refl (pb : Nat) (v : Value) (w : World) : Chg pb v v w w := ⟨rfl, rfl, rfl, Nat.le_refl _, fun _ _ _ _ => rfl, fun _ h => .inl h⟩
theorem bf_size : (Tryz.prog.info? 46).map (·.size) = some 2 := by kernel_rfl
theorem bf_lies : liesAt Tryz.prog Tryz.prog.depth 89 (11 / Tryz.prog.cellsOf 89) 8 46 1 = true := by kernel_rfl
theorem bf_u8 : (Tryz.prog.info? 5).map (fun i => (i.zero, i.size, i.bytes)) = some (some (.int .u8 0), 1, 1) := by kernel_rfl
theorem Blk.shape {w : World} {b : Nat} {cs : Array Value} {T : TypeId} (h : Blk w b cs T) : w.shape? b = some (T, cs.size) := by
 unfold Blk at h
 simp [World.shape?, h]
theorem Blk.set {w : World} {b : Nat} {cs : Array Value} {T : TypeId} (h : Blk w b cs T) (o : Nat) (u : Value) : Blk (w.setCell ⟨b, o, none⟩ u) b (cs.setIfInBounds o u) T := heap_setCell_same w b o _ _ u h
theorem bf_check_used (pb : Nat) (w : World) (h0 : w.cell? ⟨pb, 8, none⟩ = some (.pointer (some ⟨pb, 8, none⟩))) :
  Calls Tryz.prog 38 #[.pointer (some ⟨pb, 8, none⟩)] w fun e w' => e = .returned (.tuple #[]) ∧ w' = w := by
 obtain ⟨j, hj, _⟩ := Option.map_eq_some_iff.1 bf_size
 go_enter Tryz.func38, Tryz.ntmps38
 go_wp2
 rw [Lib.run_neq_ptr_same w _ Tryz.underlying43 hj]
 go_wp2
 go_end0
 exact ⟨rfl, rfl⟩
theorem bf_check_fresh (pb : Nat) (w : World) (h0 : w.cell? ⟨pb, 8, none⟩ = some (.pointer none)) (hsh : w.shape? pb = some (89, 11)) (hfz : w.frozen? ⟨pb, 8, none⟩ = false) :
  Calls Tryz.prog 38 #[.pointer (some ⟨pb, 8, none⟩)] w fun e w' => e = .returned (.tuple #[]) ∧ w' = w.setCell ⟨pb, 8, none⟩ (.pointer (some ⟨pb, 8, none⟩)) := by
 obtain ⟨j, hj, hjs⟩ := Option.map_eq_some_iff.1 bf_size
 go_enter Tryz.func38, Tryz.ntmps38
 go_wp2
 rw [Lib.run_to_unsafe w ⟨pb, 8, none⟩ Tryz.underlying43 Tryz.underlying99 hj (by rw [hjs]; decide) hsh (show 8 < 11 by decide)]
 simp only [Result.andThen]
 rw [Oper.upon_value]
 go_wp2
 rw [run_callFunc_extern Tryz.func59 (by kernel_rfl) (by kernel_rfl) (by kernel_rfl) (e := Extern.AbiNoEscape.same) (by kernel_rfl)]
 rw [Lib.run_noEscape]
 simp only [Result.andThen]
 rw [Oper.upon_value]
 go_wp2
 rw [Lib.run_from_unsafe w ⟨pb, 8, none⟩ Tryz.underlying99 Tryz.underlying43 hj hsh bf_lies]
 simp only [Result.andThen]
 rw [Oper.upon_value]
 go_wp2
 go_end0
 exact ⟨rfl, rfl⟩
theorem bf_check (pb : Nat) (c0 c1 c2 c3 c4 c5 c6 vo p vd d : Value) (w : World) (hb : Blk w pb #[c0, c1, c2, c3, c4, c5, c6, vo, p, vd, d] 89) (hp : p = .pointer none ∨ p = .pointer (some ⟨pb, 8, none⟩)) :
  Calls Tryz.prog 38 #[.pointer (some ⟨pb, 8, none⟩)] w fun e w' => e = .returned (.tuple #[]) ∧ Blk w' pb #[c0, c1, c2, c3, c4, c5, c6, vo, .pointer (some ⟨pb, 8, none⟩), vd, d] 89 ∧ Keep pb w w' := by
 rcases hp with rfl | rfl
 ·refine (bf_check_fresh pb w (hb.cell 8) hb.shape (hb.fr 8)).mono ?_
  rintro e w' ⟨rfl, rfl⟩
  exact ⟨rfl, hb.set 8 _, (Keep.refl pb w).set 8 _⟩
 ·refine (bf_check_used pb w (hb.cell 8)).mono ?_
  rintro e w' ⟨rfl, rfl⟩
  exact ⟨rfl, hb, Keep.refl pb _⟩
theorem rowF_val {w : World} {B : Nat} {e : TypeId} {n : Nat} {v : Value} {xs : List Value} (h : w.ownsRowF B e 1 v n xs) : ∃ a c, v = .slice a n c := by
 rcases h.2 with ⟨rfl, rfl⟩ | ⟨g, cap, cur, fz, rfl, _⟩
 ·exact ⟨_, _, rfl⟩
 ·exact ⟨_, _, rfl⟩
theorem bf_Len (pb : Nat) (n : Nat) (A : Option Addr) (cap : Nat) (w : World) (h : w.cell? ⟨pb, 9, none⟩ = some (.slice A n cap)) :
  Calls Tryz.prog 71 #[.pointer (some ⟨pb, 8, none⟩)] w fun e w' => e = .returned (.int .i64 n) ∧ w' = w := by
 go_enter Tryz.func71, Tryz.ntmps71
 go_wp2
 go_ret
 exact ⟨rfl, rfl⟩
set_option maxHeartbeats 2000000 in
theorem bf_WriteString (B pb : Nat) (c0 c1 c2 c3 c4 c5 c6 vo p vd d : Value) (l : List UInt8) (s : ByteArray) (w : World) (hb : Blk w pb #[c0, c1, c2, c3, c4, c5, c6, vo, p, vd, d] 89) (hp : p = .pointer none ∨ p = .pointer (some ⟨pb, 8, none⟩)) (hv : w.ownsRowF B 5 1 vd l.length (Lib.byteCells l)) (hB : B ≤ w.heap.size) (hlen : l.length + s.size ≤ 140737488355328) :
  Calls Tryz.prog 20 #[.pointer (some ⟨pb, 8, none⟩), .string s] w fun e w' => e = .returned (.tuple #[.int .i64 s.size, .nilIface]) ∧ ∃ vd', Blk w' pb #[c0, c1, c2, c3, c4, c5, c6, vo, .pointer (some ⟨pb, 8, none⟩), vd', d] 89 ∧ w'.ownsRowF B 5 1 vd' (l ++ s.data.toList).length (Lib.byteCells (l ++ s.data.toList)) ∧ Chg pb vd vd' w w' := by
 obtain ⟨i0, hi, hz0, hz1, hz2⟩ := info_parts bf_u8
 have hne : vd.ownBlock ≠ some pb := by
  intro e
  obtain ⟨_, _, cs, fz, hh⟩ := rowF_kind hv pb e
  rw [hb] at hh
  cases hh
 have cC := bf_check pb c0 c1 c2 c3 c4 c5 c6 vo p vd d w hb hp
 have hbp : pb < w.heap.size := hb.lt
 go_enter Tryz.func20, Tryz.ntmps20
 go_wp2_with fail
 refine cC.mono ?_
 rintro e w1 ⟨rfl, hb1, k1⟩
 have c8 := hb1.cell 9
 have hv1 := rowFs hv (fun g hg => k1.block g (rowF_kind hv g hg).2.1 (fun e => hne (e ▸ hg)))
 go_wp2_with (at_builtin; refine wpList_append_str_at _ rfl _ _ 44 9 rfl B 5 i0 Tryz.underlying44 Tryz.underlying9 hi hz0 hz1 hz2 _ _ _ rfl hv1 s rfl hlen ?c5 ?_)
 case c5 => have := k1.size; omega
 intro v' w2 hown' hgrow hat
 have hb2 : Blk w2 pb #[c0, c1, c2, c3, c4, c5, c6, vo, .pointer (some ⟨pb, 8, none⟩), vd, d] 89 := (hgrow.block pb hb1.lt (fun e => hne e.symm)).trans hb1
 have d9 := hb2.cell 9
 have f9 := hb2.fr 9
 obtain ⟨A', cap', rfl⟩ := rowF_val hown'
 go_wp2
 go_ret2
 refine ⟨rfl, _, hb2.set 9 _, ?_, ?_⟩
 ·have hh : (w2.setCell ⟨pb, 9, none⟩ (.slice A' (l.length + s.size) cap')).ownsRowF B 5 1 (.slice A' (l.length + s.size) cap') (l.length + s.size) (Lib.byteCells l ++ Lib.strCells s) := rowFs hown' (fun g hg => Below.heap_setCell _ _ _ _ (fun e => by
   obtain ⟨_, _, cs, fz, hh⟩ := rowF_kind hown' g hg
   rw [show g = pb from e, hb2] at hh
   cases hh))
  rw [List.length_append, Lib.byteCells_append, ← bld_cells, show s.data.toList.length = s.size by simp]
  exact hh
 ·refine ⟨hgrow.os.trans k1.os, hgrow.tape.trans k1.tape, hgrow.output.trans k1.output, by have := k1.size; have := hgrow.size; simp [World.setCell]; omega, fun k hk hkp hko => ?_, fun k hk => ?_⟩
  ·rw [Below.heap_setCell _ _ _ _ hkp, hgrow.block k (Nat.lt_of_lt_of_le hk k1.size) hko]
   exact k1.block k hk hkp
  ·rcases hat k hk with h | h
   ·exact .inl h
   ·have := k1.size
    exact .inr (by omega)
end
section
open Go.RowKit
variable {X : List Nat}
theorem cell_set_ne (w : World) (b o o' : Nat) (u : Value) (h : o' ≠ o) : (w.setCell ⟨b, o, none⟩ u).cell? ⟨b, o', none⟩ = w.cell? ⟨b, o', none⟩ := by
 unfold World.cell? World.setCell
 simp only [Array.getElem?_modify]
 rcases hh : w.heap[b]? with _ | ob
 ·simp
 ·cases ob <;> simp [h.symm]
theorem addKid_is (k n : NodeD) : (addKid k n).kind = n.kind ∧ (addKid k n).sp = n.sp ∧ (addKid k n).nm = n.nm ∧ (addKid k n).al = n.al ∧ (addKid k n).tx = n.tx ∧ (addKid k n).at' = n.at' := by cases n; exact ⟨rfl, rfl, rfl, rfl, rfl, rfl⟩
theorem Node7.re {w wc : World} {b o : Nat} {f f' : NodeD} {v : Value} (h : Node7 w wc b o f v) (e : f'.kind = f.kind ∧ f'.sp = f.sp ∧ f'.nm = f.nm ∧ f'.al = f.al ∧ f'.tx = f.tx ∧ f'.at' = f.at') : Node7 w wc b o f' v := by
 obtain ⟨e0, e1, e2, e3, e4, e5⟩ := e
 unfold Node7 at *
 rw [e0, e1, e2, e3, e4, e5]
 exact h
theorem Up.set {w : World} {L : List Nat} {B pb : Nat} {a : Nat × Nat} {ads : List (Nat × Nat)} {up : List NodeD} (u : Value) (h : Up w (holes w L) B pb (a :: ads) up) (hn : a.1 ∉ ads.map Prod.fst) (hL : a.1 ∈ L) : Up (w.setCell ⟨a.1, a.2 + 4, none⟩ u) (holes (w.setCell ⟨a.1, a.2 + 4, none⟩ u) L) B pb (a :: ads) up := by
 have hg : Goes w L (w.setCell ⟨a.1, a.2 + 4, none⟩ u) L := Goes.set hL u
 match ads, up, h with
 | [], [], h => exact h
 | a' :: ads, f :: r, h =>
  obtain ⟨⟨hne, cap, xs, c0, c1, c2, c3, c4, c5, c6, ho, h7, hr, hk⟩, hu⟩ := h
  have hl := hk.len
  have hst := (World.ownsRow.stored hr (a.2 + 4) u).1
  rw [ho, List.set_append_right _ _ (by omega), show f.kids.length * 7 + 4 - xs.length = 4 by omega] at hst
  have hs : ∀ b ∈ a' :: ads, (w.setCell ⟨a.1, a.2 + 4, none⟩ u).heap[b.1]? = w.heap[b.1]? := fun b hb => Below.heap_setCell _ _ _ _ (fun e => hn (by rw [← show b.1 = a.1 from e]; exact List.mem_map_of_mem hb))
  refine ⟨⟨hne, cap, xs, c0, c1, c2, c3, u, c5, c6, ho, h7.go hg (fun j _ => World.cell?_of_block (w := w) (hs a' (by simp))), by rw [ho]; exact hst, KRow.go hg _ _ hk⟩, Up.go hg (fun j _ => World.cell?_of_block (w := w) (Below.heap_setCell _ _ _ _ (fun e => hne e.symm))) _ _ (fun b hb _ => hs b hb) hu⟩
 | [], _ :: _, h => exact h.elim
 | _ :: _, [], h => exact h.elim
theorem mem_live {ads : List (Nat × Nat)} {v0 vo vd : Value} {k : Nat} : k ∈ live ads v0 vo vd ↔ k ∈ ads.map Prod.fst ∨ v0.ownBlock = some k ∨ vo.ownBlock = some k ∨ vd.ownBlock = some k := by
 unfold live nodesL
 simp only [List.mem_append, Option.mem_toList]
 constructor
 ·rintro ((h | h) | h | h)
  ·exact .inl h
  ·exact .inr (.inl h)
  ·exact .inr (.inr (.inl h))
  ·exact .inr (.inr (.inr h))
 ·rintro (h | h | h | h)
  ·exact .inl (.inl h)
  ·exact .inl (.inr h)
  ·exact .inr (.inl h)
  ·exact .inr (.inr h)
theorem mem_nodes {ads : List (Nat × Nat)} {v0 : Value} {k : Nat} : k ∈ nodesL ads v0 ↔ k ∈ ads.map Prod.fst ∨ v0.ownBlock = some k := by
 unfold nodesL
 simp only [List.mem_append, Option.mem_toList]
theorem nodes_nodup {ads : List (Nat × Nat)} {v0 : Value} : (nodesL ads v0).Nodup ↔ (ads.map Prod.fst).Nodup ∧ ∀ k, v0.ownBlock = some k → k ∉ ads.map Prod.fst := by
 unfold nodesL
 cases v0.ownBlock with
 | none => simp
 | some g => simp [List.nodup_append]; intro _; constructor <;> (intro h; grind)
theorem BP.lt {w : World} {B pb : Nat} {ads : List (Nat × Nat)} {data : List UInt8} {dat : Int} {vo vd p c0 c1 c2 c3 c4 c5 c6 : Value} (h : BP w B pb ads data dat vo vd p c0 c1 c2 c3 c4 c5 c6) : pb < w.heap.size := h.blk.lt
theorem BI.apart {w : World} {B pb : Nat} {m : Mac} {ads : List (Nat × Nat)} {v0 vo vd p : Value} {xs : List Value} (h : BI X w B pb m ads v0 vo vd p xs) : (∀ k ∈ nodesL ads v0, vo.ownBlock ≠ some k ∧ vd.ownBlock ≠ some k) ∧ vo.ownBlock ≠ some pb ∧ vd.ownBlock ≠ some pb ∧ (∀ k, vo.ownBlock = some k → vd.ownBlock ≠ some k) ∧ (∀ k ∈ live ads v0 vo vd, B ≤ k ∧ k < w.heap.size) := by
 obtain ⟨⟨c0, c1, c2, c3, c4, c5, c6, hb⟩, ht⟩ := h
 have hkind := ht.kind
 have hpo : vo.ownBlock ≠ some pb := fun e => by
  obtain ⟨_, _, cs, fz, hh⟩ := row_kind hb.opn pb e
  rw [hb.blk] at hh
  cases hh
 have hpd : vd.ownBlock ≠ some pb := fun e => by
  obtain ⟨_, _, cs, fz, hh⟩ := rowF_kind hb.chars pb e
  rw [hb.blk] at hh
  cases hh
 refine ⟨fun k hk => ?_, hpo, hpd, fun k ho hd => ?_, fun k hk => ?_⟩
 ·rcases hkind k hk with rfl | ⟨_, _, cs, fz, hh⟩
  ·exact ⟨hpo, hpd⟩
  ·refine ⟨fun e => ?_, fun e => ?_⟩
   ·obtain ⟨_, _, cs', fz', hh'⟩ := row_kind hb.opn k e
    rw [hh] at hh'
    cases hh'
   ·obtain ⟨_, _, cs', fz', hh'⟩ := rowF_kind hb.chars k e
    rw [hh] at hh'
    cases hh'
 ·obtain ⟨_, _, cs, fz, hh⟩ := row_kind hb.opn k ho
  obtain ⟨_, _, cs', fz', hh'⟩ := rowF_kind hb.chars k hd
  rw [hh] at hh'
  cases hh'
 ·rcases mem_live.1 hk with h | h | h | h
  ·rcases hkind k (mem_nodes.2 (.inl h)) with rfl | ⟨h1, h2, _⟩
   ·exact ⟨hb.low, hb.lt⟩
   ·exact ⟨h1, h2⟩
  ·obtain ⟨h1, h2, _⟩ := row_kind ht.row k h
   exact ⟨h1, h2⟩
  ·obtain ⟨h1, h2, _⟩ := row_kind hb.opn k h
   exact ⟨h1, h2⟩
  ·obtain ⟨h1, h2, _⟩ := rowF_kind hb.chars k h
   exact ⟨h1, h2⟩
theorem BI.pbin {w : World} {B pb : Nat} {m : Mac} {ads : List (Nat × Nat)} {v0 vo vd p : Value} {xs : List Value} (h : BI X w B pb m ads v0 vo vd p xs) : pb ∈ ads.map Prod.fst := by
 obtain ⟨x, hx⟩ := (Up.mem _ _ h.ti.up).1
 exact List.mem_map_of_mem (f := Prod.fst) hx
theorem BI.nopb {w : World} {B pb : Nat} {m : Mac} {ads : List (Nat × Nat)} {v0 vo vd p : Value} {xs : List Value} (h : BI X w B pb m ads v0 vo vd p xs) : ∀ g, v0.ownBlock = some g → g ≠ pb := fun g hg e => (nodes_nodup.1 h.ti.nodup).2 g hg (e ▸ h.pbin)
theorem BI.more {w w' : World} {B pb : Nat} {m : Mac} {ads : List (Nat × Nat)} {v0 vo vd p : Value} {xs : List Value} (h : BI X w B pb m ads v0 vo vd p xs) (hb : Below w.heap.size w w') : BI X w' B pb m ads v0 vo vd p xs := by
 have hl := h.apart.2.2.2.2
 have hs : ∀ k ∈ live ads v0 vo vd, w'.heap[k]? = w.heap[k]? := fun k hk => hb.block k (hl k hk).2
 obtain ⟨⟨c0, c1, c2, c3, c4, c5, c6, hp⟩, ht⟩ := id h
 exact ⟨⟨c0, c1, c2, c3, c4, c5, c6, hp.low, (hb.block pb hp.lt).trans hp.blk, hp.addr, rowSame hp.opn (fun g hg => hs g (mem_live.2 (.inr (.inr (.inl hg))))), rowFs hp.chars (fun g hg => hs g (mem_live.2 (.inr (.inr (.inr hg)))))⟩,
  ht.go (Goes.below hb) (fun j _ => World.cell?_of_block (w := w) (hb.block pb hp.lt)) (fun k hk _ => hs k (by rcases mem_nodes.1 hk with x | x; exact mem_live.2 (.inl x); exact mem_live.2 (.inr (.inl x)))) h.nopb, h.low⟩
theorem BI.chars {w w' : World} {B pb : Nat} {m : Mac} {ads : List (Nat × Nat)} {v0 vo vd p : Value} {xs : List Value} (h : BI X w B pb m ads v0 vo vd p xs) {c0 c1 c2 c3 c4 c5 c6 : Value} (hp : BP w B pb ads m.data m.dat vo vd p c0 c1 c2 c3 c4 c5 c6) {vd' p' : Value} {data' : List UInt8} {dat' : Int} (hc : Chg pb vd vd' w w')
  (hb : Blk w' pb #[c0, c1, c2, c3, c4, c5, c6, vo, p', vd', .int .i64 dat'] 89) (hp' : p' = .pointer none ∨ p' = .pointer (some ⟨pb, 8, none⟩)) (hv : w'.ownsRowF B 5 1 vd' data'.length (Lib.byteCells data')) : BI X w' B pb { m with data := data', dat := dat' } ads v0 vo vd' p' xs := by
 have ha := h.apart
 have hl := ha.2.2.2.2
 have hs : ∀ k ∈ live ads v0 vo vd, k ≠ pb → vd.ownBlock ≠ some k → w'.heap[k]? = w.heap[k]? := fun k hk h1 h2 => hc.block k (hl k hk).2 h1 (fun e => h2 e.symm)
 have hg : Goes w (live ads v0 vo vd) w' (live ads v0 vo vd') := fun k hk hn => ⟨fun e => by
   rcases mem_live.1 e with x | x | x | x
   ·exact hn (mem_live.2 (.inl x))
   ·exact hn (mem_live.2 (.inr (.inl x)))
   ·exact hn (mem_live.2 (.inr (.inr (.inl x))))
   ·rcases hc.own k x with y | y
    ·exact hn (mem_live.2 (.inr (.inr (.inr y))))
    ·omega, hc.block k hk (fun e => hn (e ▸ mem_live.2 (.inl h.pbin))) (fun e => hn (mem_live.2 (.inr (.inr (.inr e.symm)))))⟩
 refine ⟨⟨c0, c1, c2, c3, c4, c5, c6, hp.low, hb, hp', rowSame hp.opn (fun g hg => hs g (mem_live.2 (.inr (.inr (.inl hg)))) (fun e => ha.2.1 (e ▸ hg)) (ha.2.2.2.1 g hg)), hv⟩, ?_, h.low⟩
 refine h.ti.go (hg.app X) (fun j hj => ?_) (fun k hk hkp => hs k (by rcases mem_nodes.1 hk with x | x; exact mem_live.2 (.inl x); exact mem_live.2 (.inr (.inl x))) hkp (ha.1 k hk).2) h.nopb
 rw [hb.cell, hp.blk.cell]
 match j, hj with
 | 0, _ => rfl
 | 1, _ => rfl
 | 2, _ => rfl
 | 3, _ => rfl
 | 4, _ => rfl
 | 5, _ => rfl
 | 6, _ => rfl
theorem BI.put {w w2 : World} {B pb : Nat} {m : Mac} {ads : List (Nat × Nat)} {a : Nat × Nat} {v0 vo vd p : Value} {xs : List Value} (h : BI X w B pb m (a :: ads) v0 vo vd p xs) {k : NodeD} {n0 n1 n2 n3 n4 n5 n6 : Value} (hk : NodeIs (holes w (live (a :: ads) v0 vo vd ++ X)) k (.agg #[n0, n1, n2, n3, n4, n5, n6]))
  {g cap : Nat} (ho : w2.ownsRow B 25 7 (.slice (some ⟨g, 0, none⟩) (m.top.kids.length + 1) cap) (m.top.kids.length + 1) (xs ++ [n0, n1, n2, n3, n4, n5, n6])) (hat : v0.ownBlock = some g ∨ w.heap.size ≤ g) (_hz : w.heap.size ≤ w2.heap.size)
  (hs2 : ∀ k, k < w.heap.size → v0.ownBlock ≠ some k → w2.heap[k]? = w.heap[k]?) :
  BI X (w2.setCell ⟨a.1, a.2 + 4, none⟩ (.slice (some ⟨g, 0, none⟩) (m.top.kids.length + 1) cap)) B pb { m with top := addKid k m.top } (a :: ads) (.slice (some ⟨g, 0, none⟩) (m.top.kids.length + 1) cap) vo vd p (xs ++ [n0, n1, n2, n3, n4, n5, n6]) ∧ Goes w (live (a :: ads) v0 vo vd) (w2.setCell ⟨a.1, a.2 + 4, none⟩ (.slice (some ⟨g, 0, none⟩) (m.top.kids.length + 1) cap)) (live (a :: ads) (.slice (some ⟨g, 0, none⟩) (m.top.kids.length + 1) cap) vo vd) := by
 have ha := h.apart
 have hl := ha.2.2.2.2
 have hal : a.1 ∈ live (a :: ads) v0 vo vd := mem_live.2 (.inl (by simp))
 have hnd := nodes_nodup.1 h.ti.nodup
 have hga : g ≠ a.1 := by
  rcases hat with e | e
  ·exact fun e' => hnd.2 g e (by rw [e']; simp)
  ·have := (hl a.1 hal).2
   omega
 have hgn : g ∉ (a :: ads).map Prod.fst := by
  rcases hat with e | e
  ·exact hnd.2 g e
  ·intro e'
   have := (hl g (mem_live.2 (.inl e'))).2
   omega
 obtain ⟨W, hW⟩ : ∃ W, W = w2.setCell ⟨a.1, a.2 + 4, none⟩ (.slice (some ⟨g, 0, none⟩) (m.top.kids.length + 1) cap) := ⟨_, rfl⟩
 obtain ⟨v1, hv1⟩ : ∃ v1, v1 = Value.slice (some ⟨g, 0, none⟩) (m.top.kids.length + 1) cap := ⟨_, rfl⟩
 have hown1 : v1.ownBlock = some g := by rw [hv1]; rfl
 rw [← hv1] at ho hW ⊢
 rw [← hW]
 have hWo : ∀ k, k ≠ a.1 → W.heap[k]? = w2.heap[k]? := fun k hk => by rw [hW]; exact Below.heap_setCell _ _ _ _ hk
 have hWs : ∀ k, k < w.heap.size → k ≠ a.1 → v0.ownBlock ≠ some k → W.heap[k]? = w.heap[k]? := fun k h1 h2 h3 => (hWo k h2).trans (hs2 k h1 h3)
 have hg : Goes w (live (a :: ads) v0 vo vd) W (live (a :: ads) v1 vo vd) := fun k hk hn => ⟨fun e => by
   rcases mem_live.1 e with x | x | x | x
   ·exact hn (mem_live.2 (.inl x))
   ·rw [hown1] at x
    injection x with x
    rcases hat with y | y
    ·exact hn (mem_live.2 (.inr (.inl (x ▸ y))))
    ·omega
   ·exact hn (mem_live.2 (.inr (.inr (.inl x))))
   ·exact hn (mem_live.2 (.inr (.inr (.inr x)))), hWs k hk (fun e => hn (e ▸ hal)) (fun e => hn (mem_live.2 (.inr (.inl e))))⟩
 have hg2 : Goes w (live (a :: ads) v0 vo vd) w2 (live (a :: ads) v1 vo vd) := fun k hk hn => ⟨(hg k hk hn).1, hs2 k hk (fun e => hn (mem_live.2 (.inr (.inl e))))⟩
 have hga2 : w2.heap[a.1]? = w.heap[a.1]? := hs2 a.1 (hl a.1 hal).2 (fun e => hnd.2 a.1 e (by simp))
 obtain ⟨⟨c0, c1, c2, c3, c4, c5, c6, hp⟩, ⟨hn, ⟨a', r, har, h7⟩, hr, hkk, hu⟩, hlw⟩ := id h
 injection har with e1 e2
 subst e1
 subst e2
 have hpb2 : w2.heap[pb]? = w.heap[pb]? := hs2 pb hp.lt (fun e => h.nopb pb e rfl)
 have hu2 : Up w2 (holes w2 (live (a :: ads) v1 vo vd ++ X)) B pb (a :: ads) m.up := Up.go (hg2.app X) (fun j _ => World.cell?_of_block (w := w) hpb2) _ _ (fun b hb _ => hs2 b.1 (hl b.1 (mem_live.2 (.inl (List.mem_map_of_mem hb)))).2 (fun e => hnd.2 b.1 e (List.mem_map_of_mem hb))) hu
 have hu3 : Up W (holes W (live (a :: ads) v1 vo vd ++ X)) B pb (a :: ads) m.up := by
  rw [hW]
  exact Up.set v1 hu2 (by have := hnd.1; simp only [List.map_cons, List.nodup_cons] at this; exact this.1) (List.mem_append_left _ (mem_live.2 (.inl (by simp))))
 refine ⟨⟨?_, ⟨nodes_nodup.2 ⟨hnd.1, fun k hk => by rw [hown1] at hk; injection hk with hk; rw [← hk]; exact hgn⟩, ⟨a, ads, rfl, ?_⟩, ?_, ?_, hu3⟩, hlw⟩, hg⟩
 ·have ho2 : ∀ g', vo.ownBlock = some g' → W.heap[g']? = w.heap[g']? := fun g' hg' => hWs g' (hl g' (mem_live.2 (.inr (.inr (.inl hg'))))).2 (fun e => (ha.1 a.1 (mem_nodes.2 (.inl (by simp)))).1 (e ▸ hg')) (fun e => (ha.1 g' (mem_nodes.2 (.inr e))).1 hg')
  have hd2 : ∀ g', vd.ownBlock = some g' → W.heap[g']? = w.heap[g']? := fun g' hg' => hWs g' (hl g' (mem_live.2 (.inr (.inr (.inr hg'))))).2 (fun e => (ha.1 a.1 (mem_nodes.2 (.inl (by simp)))).2 (e ▸ hg')) (fun e => (ha.1 g' (mem_nodes.2 (.inr e))).2 hg')
  have hb2 : Blk w2 pb #[c0, c1, c2, c3, c4, c5, c6, vo, p, vd, .int .i64 m.dat] 89 := hpb2.trans hp.blk
  rcases hu.head with ⟨x1, x2, _⟩ | ⟨x1, _⟩
  ·have hb3 : Blk W pb #[c0, c1, c2, c3, v1, c5, c6, vo, p, vd, .int .i64 m.dat] 89 := by
    have := hb2.set 4 v1
    rw [hW, x1, x2]
    exact this
   exact ⟨c0, c1, c2, c3, v1, c5, c6, hp.low, hb3, hp.addr, rowSame hp.opn ho2, rowFs hp.chars hd2⟩
  ·exact ⟨c0, c1, c2, c3, c4, c5, c6, hp.low, (hWo pb (fun e => x1 e.symm)).trans hb2, hp.addr, rowSame hp.opn ho2, rowFs hp.chars hd2⟩
 ·refine Node7.re (f := m.top) ?_ (addKid_is k m.top)
  obtain ⟨pa, ca, ⟨h0, h1, h2, h3, h4, h5, h6⟩, hat'⟩ := h7
  have hc : ∀ j v, j ≠ 4 → w.cell? ⟨a.1, a.2 + j, none⟩ = some v → W.cell? ⟨a.1, a.2 + j, none⟩ = some v := fun j v hj hv => by
   rw [hW, cell_set_ne _ _ _ _ _ (by omega), World.cell?_of_block (w := w) hga2]
   exact hv
  have hset : W.cell? ⟨a.1, a.2 + 4, none⟩ = some v1 := by
   rw [hW]
   exact cSs _ (by rw [World.cell?_of_block (w := w) hga2, h4]; rfl)
  exact ⟨pa, ca, ⟨hc 0 _ (by decide) h0, hc 1 _ (by decide) h1, hc 2 _ (by decide) h2, hc 3 _ (by decide) h3, hset, hc 5 _ (by decide) h5, hc 6 _ (by decide) h6⟩, hat'.go (hg.app X)⟩
 ·show W.ownsRow B _ 7 v1 (addKid k m.top).kids.length _
  rw [addKid_kids, List.length_append, List.length_singleton]
  exact rowSame ho (fun g' hg' => hWo g' (by rw [hown1] at hg'; injection hg' with hg'; omega))
 ·show KRow _ (addKid k m.top).kids _
  rw [addKid_kids]
  exact KRow.snoc (hk.go (hg.app X)) _ _ (KRow.go (hg.app X) _ _ hkk)
theorem seven_cells {w : World} {B g n cap : Nat} {xs : List Value} {c0 c1 c2 c3 c4 c5 c6 : Value} (hr : w.ownsRow B 25 7 (.slice (some ⟨g, 0, none⟩) (n + 1) cap) (n + 1) (xs ++ [c0, c1, c2, c3, c4, c5, c6])) (hl : xs.length = n * 7) : w.cell? ⟨g, n * 7, none⟩ = some c0 ∧ w.cell? ⟨g, n * 7 + 1, none⟩ = some c1 ∧ w.cell? ⟨g, n * 7 + 2, none⟩ = some c2 ∧ w.cell? ⟨g, n * 7 + 3, none⟩ = some c3 ∧ w.cell? ⟨g, n * 7 + 4, none⟩ = some c4 ∧ w.cell? ⟨g, n * 7 + 5, none⟩ = some c5 ∧ w.cell? ⟨g, n * 7 + 6, none⟩ = some c6 := by
 have hc : ∀ j u, [c0, c1, c2, c3, c4, c5, c6][j]? = some u → w.cell? ⟨g, n * 7 + j, none⟩ = some u := by
  intro j u hu
  have := World.ownsRow.cells hr (g := g) rfl (n * 7 + j) u (by rw [List.getElem?_append_right (by omega), show n * 7 + j - xs.length = j by omega]; exact hu)
  rw [show (⟨g, 0, none⟩ : Addr).add (n * 7 + j) = ⟨g, n * 7 + j, none⟩ by unfold Addr.add; split <;> simp_all] at this
  exact this
 exact ⟨hc 0 _ rfl, hc 1 _ rfl, hc 2 _ rfl, hc 3 _ rfl, hc 4 _ rfl, hc 5 _ rfl, hc 6 _ rfl⟩
theorem set_comm (w : World) (p q : Addr) (u v : Value) (h : p.block ≠ q.block) : (w.setCell p u).setCell q v = (w.setCell q v).setCell p u := by
 have he : ∀ k : Nat, ((w.setCell p u).setCell q v).heap[k]? = ((w.setCell q v).setCell p u).heap[k]? := by
  intro k
  unfold World.setCell
  simp only [Array.getElem?_modify]
  by_cases h1 : p.block = k
  ·have h2 : ¬ q.block = k := fun e => h (h1.trans e.symm)
   simp [h1, h2]
  ·by_cases h2 : q.block = k
   ·simp [h1, h2]
   ·simp [h1, h2]
 have hh : ((w.setCell p u).setCell q v).heap = ((w.setCell q v).setCell p u).heap := by
  apply Array.ext_getElem?
  exact he
 unfold World.setCell at hh ⊢
 simp only at hh ⊢
 rw [hh]
theorem _root_.Go.World.grownBy.thenG {w w1 w2 : World} {r : Option Nat} (h : w.grownBy w1 r) (h' : w1.grownBy w2 r) : w.grownBy w2 r := ⟨h'.os.trans h.os, h'.tape.trans h.tape, h'.output.trans h.output, Nat.le_trans h.size h'.size, fun k hk hr => (h'.block k (Nat.lt_of_lt_of_le hk h.size) hr).trans (h.block k hk hr)⟩
theorem row_store7 {w : World} {B g n cap : Nat} {xs : List Value} {z0 z1 z2 z3 z4 z5 z6 : Value} (hr : w.ownsRow B 25 7 (.slice (some ⟨g, 0, none⟩) (n + 1) cap) (n + 1) (xs ++ [z0, z1, z2, z3, z4, z5, z6])) (hl : xs.length = n * 7) (n0 n1 n2 n3 n4 n5 n6 : Value) :
  (((((((w.setCell ⟨g, n * 7, none⟩ n0).setCell ⟨g, n * 7 + 1, none⟩ n1).setCell ⟨g, n * 7 + 2, none⟩ n2).setCell ⟨g, n * 7 + 3, none⟩ n3).setCell ⟨g, n * 7 + 4, none⟩ n4).setCell ⟨g, n * 7 + 5, none⟩ n5).setCell ⟨g, n * 7 + 6, none⟩ n6).ownsRow B 25 7 (.slice (some ⟨g, 0, none⟩) (n + 1) cap) (n + 1) (xs ++ [n0, n1, n2, n3, n4, n5, n6]) ∧ w.grownBy (((((((w.setCell ⟨g, n * 7, none⟩ n0).setCell ⟨g, n * 7 + 1, none⟩ n1).setCell ⟨g, n * 7 + 2, none⟩ n2).setCell ⟨g, n * 7 + 3, none⟩ n3).setCell ⟨g, n * 7 + 4, none⟩ n4).setCell ⟨g, n * 7 + 5, none⟩ n5).setCell ⟨g, n * 7 + 6, none⟩ n6) (some g) := by
 have s0 := hr.stored (n * 7) n0
 have s1 := s0.1.stored (n * 7 + 1) n1
 have s2 := s1.1.stored (n * 7 + 2) n2
 have s3 := s2.1.stored (n * 7 + 3) n3
 have s4 := s3.1.stored (n * 7 + 4) n4
 have s5 := s4.1.stored (n * 7 + 5) n5
 have s6 := s5.1.stored (n * 7 + 6) n6
 have e : ((((((((xs ++ [z0, z1, z2, z3, z4, z5, z6]).set (n * 7) n0).set (n * 7 + 1) n1).set (n * 7 + 2) n2).set (n * 7 + 3) n3).set (n * 7 + 4) n4).set (n * 7 + 5) n5).set (n * 7 + 6) n6) = xs ++ [n0, n1, n2, n3, n4, n5, n6] := by
  have hs : ∀ (ys : List Value) (j : Nat) (u : Value), (xs ++ ys).set (n * 7 + j) u = xs ++ ys.set j u := fun ys j u => by rw [List.set_append_right _ _ (by omega), show n * 7 + j - xs.length = j by omega]
  have h0 := hs [z0, z1, z2, z3, z4, z5, z6] 0 n0
  rw [Nat.add_zero] at h0
  rw [h0, hs, hs, hs, hs, hs, hs]
  rfl
 have h6 := s6.1
 rw [e] at h6
 exact ⟨h6, (((((s0.2.thenG s1.2).thenG s2.2).thenG s3.2).thenG s4.2).thenG s5.2).thenG s6.2⟩
theorem TI.pop {w : World} {L L' : List Nat} {B pb : Nat} {top f : NodeD} {r : List NodeD} {a : Nat × Nat} {ads : List (Nat × Nat)} {v0 : Value} {xs : List Value} (h : TI w L B pb top (f :: r) (a :: ads) v0 xs) (hL : ∀ k, k ∈ L' → k ∈ L) (h0 : ∀ g, v0.ownBlock = some g → g ∉ L') (_haL : a.1 ∈ L) :
  ∃ v xs', TI w L' B pb (addKid top f) r ads v xs' ∧ v.ownBlock = some a.1 := by
 obtain ⟨hn, ⟨a', r', har, h7⟩, hr, hk, hu⟩ := h
 injection har with e1 e2
 subst e1
 subst e2
 match ads, hu with
 | [], hu => exact hu.elim
 | a' :: ads, hu =>
  obtain ⟨⟨hne, cap, xs', c0, c1, c2, c3, c4, c5, c6, ho, g7, hr', hk'⟩, hu⟩ := hu
  have hl := hk'.len
  obtain ⟨d0, d1, d2, d3, d4, d5, d6⟩ := seven_cells hr' hl
  obtain ⟨pa, ca, ⟨h0', h1, h2, h3, h4, h5, h6⟩, hat⟩ := h7
  rw [ho] at h0' h1 h2 h3 h4 h5 h6
  rw [h0'] at d0
  rw [h1] at d1
  rw [h2] at d2
  rw [h3] at d3
  rw [h4] at d4
  rw [h5] at d5
  rw [h6] at d6
  simp only [Option.some.injEq] at d0 d1 d2 d3 d4 d5 d6
  subst d0
  subst d1
  subst d2
  subst d3
  subst d4
  subst d5
  subst d6
  obtain ⟨pk, ck, e4, hkids⟩ := row_kids hr hk hL h0
  have hg : Goes w L w L' := Goes.less hL
  have hnode : NodeIs (holes w L') top (.agg #[.int .i64 top.kind, .string top.sp, .string top.nm, .slice pa top.al.length ca, v0, .string top.tx, .int .i64 top.at']) := by
   rw [node_is]
   exact ⟨pa, ca, pk, ck, by rw [e4], hat.go hg, hkids⟩
  have hnd := nodes_nodup.1 hn
  simp only [List.map_cons, List.nodup_cons] at hnd
  refine ⟨.slice (some ⟨a.1, 0, none⟩) (f.kids.length + 1) cap, xs' ++ [.int .i64 top.kind, .string top.sp, .string top.nm, .slice pa top.al.length ca, v0, .string top.tx, .int .i64 top.at'], ⟨nodes_nodup.2 ⟨by simpa using hnd.1.2, fun k hk => ?_⟩, ⟨a', ads, rfl, (g7.go hg (fun _ _ => rfl)).re (addKid_is top f)⟩, ?_, ?_, Up.go hg (fun _ _ => rfl) _ _ (fun _ _ _ => rfl) hu⟩, rfl⟩
  ·simp only [Value.ownBlock, Option.some.injEq] at hk
   subst hk
   simpa using hnd.1.1
  ·rw [addKid_kids, List.length_append, List.length_singleton]
   exact hr'
  ·rw [addKid_kids]
   exact KRow.snoc hnode _ _ (KRow.go hg _ _ hk')
theorem TI.push {w : World} {L L' : List Nat} {B pb : Nat} {top : NodeD} {up : List NodeD} {a : Nat × Nat} {ads : List (Nat × Nat)} {t : TokD} {g cap : Nat} {xs : List Value} {pa : Option Addr} {ca : Nat}
  (h : TI w L B pb (addKid (elemN t []) top) up (a :: ads) (.slice (some ⟨g, 0, none⟩) (top.kids.length + 1) cap) (xs ++ [.int .i64 0, .string noB, .string (oB t.nm), .slice pa t.al.length ca, .slice none 0 0, .string noB, .int .i64 t.at'])) (hk : KRow (holes w L) top.kids xs) (hat : AttrsAt (holes w L) pa t.al) (hL : ∀ k, k ∈ L' → k ∈ L) (hpb : g ≠ pb) :
  TI w L' B pb (elemN t []) (top :: up) ((g, top.kids.length * 7) :: a :: ads) (.slice none 0 0) [] := by
 obtain ⟨hn, ⟨a', r', har, h7⟩, hr, _, hu⟩ := h
 injection har with e1 e2
 subst e1
 subst e2
 have hg : Goes w L w L' := Goes.less hL
 rw [addKid_kids, List.length_append, List.length_singleton] at hr
 have hl := hk.len
 obtain ⟨d0, d1, d2, d3, d4, d5, d6⟩ := seven_cells hr hl
 have hnd := nodes_nodup.1 hn
 refine ⟨nodes_nodup.2 ⟨?_, fun k hk => by cases hk⟩, ⟨_, _, rfl, pa, ca, ⟨d0, d1, d2, d3, d4, d5, d6⟩, hat.go hg⟩, World.ownsRow_nil _ _ _ _, rfl, ⟨⟨hpb, cap, xs, _, _, _, _, _, _, _, rfl, (h7.go hg (fun _ _ => rfl)).re ?_, hr, KRow.go hg _ _ hk⟩, Up.go hg (fun _ _ => rfl) _ _ (fun _ _ _ => rfl) hu⟩⟩
 ·rw [List.map_cons, List.nodup_cons]
  exact ⟨hnd.2 g rfl, hnd.1⟩
 ·obtain ⟨x0, x1, x2, x3, x4, x5⟩ := addKid_is (elemN t []) top
  exact ⟨x0.symm, x1.symm, x2.symm, x3.symm, x4.symm, x5.symm⟩
end
section
open Go.RowKit
variable {X : List Nat}
theorem bo_outside (pb n : Nat) (A : Option Addr) (cap : Nat) (w : World) (h : w.cell? ⟨pb, 7, none⟩ = some (.slice A n cap)) :
  Calls Tryz.prog 28 #[.pointer (some ⟨pb, 0, none⟩)] w fun e w' => e = .returned (.bool (decide (n = 1))) ∧ w' = w := by
 have hd : ((n : Int) == 1) = decide (n = 1) := by
  rw [show ((n : Int) == 1) = decide ((n : Int) = 1) from rfl]
  exact decide_eq_decide.2 (by omega)
 go_enter Tryz.func28, Tryz.ntmps28
 go_wp2
 go_ret
 exact ⟨rfl, rfl⟩
theorem bo_hasRoot (pb n : Nat) (A : Option Addr) (cap : Nat) (w : World) (h : w.cell? ⟨pb, 4, none⟩ = some (.slice A n cap)) :
  Calls Tryz.prog 29 #[.pointer (some ⟨pb, 0, none⟩)] w fun e w' => e = .returned (.bool (decide (0 < n))) ∧ w' = w := by
 go_enter Tryz.func29, Tryz.ntmps29
 go_wp2
 go_ret
 simp
theorem bo_innermost (pb n N g cap : Nat) (v : Value) (w : World) (hN : N = n + 1) (h : w.cell? ⟨pb, 7, none⟩ = some (.slice (some ⟨g, 0, none⟩) N cap)) (hv : w.cell? ⟨g, n, none⟩ = some v) (hn : n ≤ 1000000) :
  Calls Tryz.prog 69 #[.pointer (some ⟨pb, 0, none⟩)] w fun e w' => e = .returned v ∧ ∃ k, w' = w.drewN k := by
 have hw : IntKind.i64.wrap ((N : Int) - 1) = (n : Int) := by rw [show (N : Int) - 1 = (n : Int) by omega]; exact wrap_small _ (by omega) (by omega)
 have hn0 : (0 : Int) ≤ (n : Int) := by omega
 have hnN : (n : Int) < (N : Int) := by omega
 have hnN' : n < N := by omega
 clear hN
 go_enter Tryz.func69, Tryz.ntmps69
 go_wp2
 go_quiet (fail)
 go_wp2
 go_ret
 exact ⟨rfl, _, rfl⟩
theorem cAl {w : World} {c : Addr} {v : Value} (h : w.cell? c = some v) : ∀ o, (w.alloc o).cell? c = some v := fun o => (((Below.refl w.heap.size w).alloc (Nat.le_refl _) o).cell (kbl h)).trans h
def cells7 (kd : Int) (sp nm : ByteArray) (pa : Option Addr) (na ca : Nat) (pk : Option Addr) (nk ck : Nat) (tx : ByteArray) (at' : Int) : List Value := [.int .i64 kd, .string sp, .string nm, .slice pa na ca, .slice pk nk ck, .string tx, .int .i64 at']
def At7 (w : World) (b o : Nat) (kd : Int) (sp nm : ByteArray) (pa : Option Addr) (na ca : Nat) (pk : Option Addr) (nk ck : Nat) (tx : ByteArray) (at' : Int) : Prop := w.cell? ⟨b, o, none⟩ = some (.int .i64 kd) ∧ w.cell? ⟨b, o + 1, none⟩ = some (.string sp) ∧ w.cell? ⟨b, o + 2, none⟩ = some (.string nm) ∧ w.cell? ⟨b, o + 3, none⟩ = some (.slice pa na ca) ∧ w.cell? ⟨b, o + 4, none⟩ = some (.slice pk nk ck) ∧ w.cell? ⟨b, o + 5, none⟩ = some (.string tx) ∧ w.cell? ⟨b, o + 6, none⟩ = some (.int .i64 at')
theorem bo_root (pb n g cap : Nat) (kd : Int) (sp nm : ByteArray) (pa : Option Addr) (na ca : Nat) (pk : Option Addr) (nk ck : Nat) (tx : ByteArray) (at' : Int) (w : World) (h : w.cell? ⟨pb, 4, none⟩ = some (.slice (some ⟨g, 0, none⟩) n cap)) (hn : 0 < n) (h7 : At7 w g 0 kd sp nm pa na ca pk nk ck tx at') :
  Calls Tryz.prog 30 #[.pointer (some ⟨pb, 0, none⟩)] w fun e w' => e = .returned (.agg #[.int .i64 kd, .string sp, .string nm, .slice pa na ca, .slice pk nk ck, .string tx, .int .i64 at']) ∧ Below w.heap.size w w' := by
 have hn1 : (0 : Int) < (n : Int) := by omega
 obtain ⟨h0, h1, h2, h3, h4, h5, h6⟩ := h7
 have q := cAl h
 have q0 := cAl h0
 have q1 := cAl h1
 have q2 := cAl h2
 have q3 := cAl h3
 have q4 := cAl h4
 have q5 := cAl h5
 have q6 := cAl h6
 simp only [Nat.zero_add] at q1 q2 q3 q4 q5 q6
 clear h h0 h1 h2 h3 h4 h5 h6
 go_enter Tryz.func30, Tryz.ntmps30
 go_wp2
 exact bodyPost_ret (v := .agg #[.int .i64 kd, .string sp, .string nm, .slice pa na ca, .slice pk nk ck, .string tx, .int .i64 at']) (by simp [results, Tryz.results30, go_sem]) rfl ⟨rfl, (Below.refl _ _).alloc (Nat.le_refl _) _⟩
theorem kinfo_node : (Tryz.prog.info? 25).map (fun i => (i.zero, i.size, i.bytes)) = some (some (.agg #[.int .i64 0, .string ⟨#[]⟩, .string ⟨#[]⟩, .slice none 0 0, .slice none 0 0, .string ⟨#[]⟩, .int .i64 0]), 7, 112) := by kernel_rfl
theorem row_val {w : World} {B : Nat} {e : TypeId} {s n : Nat} {v : Value} {xs : List Value} (h : w.ownsRow B e s v n xs) : ∃ a c, v = .slice a n c := by
 rcases h.2 with ⟨rfl, rfl⟩ | ⟨g, cap, cur, rfl, _⟩
 ·exact ⟨_, _, rfl⟩
 ·exact ⟨_, _, rfl⟩
theorem ptrs_last (a : Nat × Nat) (ads : List (Nat × Nat)) : (ptrs (a :: ads))[ads.length]? = some (.pointer (some ⟨a.1, a.2, none⟩)) := by
 unfold ptrs
 rw [List.reverse_cons, List.map_append, List.getElem?_append_right (by simp)]
 simp
theorem BI.inner {w : World} {B pb : Nat} {m : Mac} {a : Nat × Nat} {ads : List (Nat × Nat)} {v0 vo vd p : Value} {xs : List Value} (h : BI X w B pb m (a :: ads) v0 vo vd p xs) : ∃ g cap, w.cell? ⟨pb, 7, none⟩ = some (.slice (some ⟨g, 0, none⟩) (ads.length + 1) cap) ∧ w.cell? ⟨g, ads.length, none⟩ = some (.pointer (some ⟨a.1, a.2, none⟩)) ∧ vo = .slice (some ⟨g, 0, none⟩) (ads.length + 1) cap := by
 obtain ⟨c0, c1, c2, c3, c4, c5, c6, hp⟩ := h.bp
 obtain ⟨g, cap, hv, _, _⟩ := World.ownsRow.form hp.opn (by simp)
 rw [List.length_cons] at hv
 have hc := World.ownsRow.cells hp.opn (g := g) (by rw [hv]; rfl) ads.length _ (ptrs_last a ads)
 rw [show (⟨g, 0, none⟩ : Addr).add ads.length = ⟨g, ads.length, none⟩ by unfold Addr.add; split <;> simp_all] at hc
 exact ⟨g, cap, by rw [hp.blk.cell, ← hv]; rfl, hc, hv⟩
theorem BI.afr {w : World} {B pb : Nat} {m : Mac} {a : Nat × Nat} {ads : List (Nat × Nat)} {v0 vo vd p : Value} {xs : List Value} (h : BI X w B pb m (a :: ads) v0 vo vd p xs) (o : Nat) : w.frozen? ⟨a.1, o, none⟩ = false := by
 have hu := h.ti.up
 obtain ⟨c0, c1, c2, c3, c4, c5, c6, hp⟩ := h.bp
 match ads, m.up, hu with
 | [], [], hu => rw [hu.1]; exact hp.blk.fr o
 | _ :: _, _ :: _, hu =>
  obtain ⟨⟨_, cap, xs, d0, d1, d2, d3, d4, d5, d6, _, _, hr, _⟩, _⟩ := hu
  exact World.ownsRow.frozenAt hr o
 | [], _ :: _, hu => exact hu.elim
 | _ :: _, [], hu => exact hu.elim
set_option maxHeartbeats 4000000 in
theorem bo_put (B pb : Nat) (m : Mac) (a : Nat × Nat) (ads : List (Nat × Nat)) (v0 vo vd p : Value) (xs : List Value) (k : NodeD) (kd : Int) (sp nm : ByteArray) (pa : Option Addr) (na ca : Nat) (pk : Option Addr) (nk ck : Nat) (tx : ByteArray) (at' : Int) (w : World) (hI : BI X w B pb m (a :: ads) v0 vo vd p xs)
  (hk : NodeIs (holes w (live (a :: ads) v0 vo vd ++ X)) k (.agg #[.int .i64 kd, .string sp, .string nm, .slice pa na ca, .slice pk nk ck, .string tx, .int .i64 at'])) (hn : m.top.kids.length ≤ 1000000000) (ha : ads.length ≤ 1000000) (_hB : B ≤ w.heap.size) :
  Calls Tryz.prog 68 #[.pointer (some ⟨pb, 0, none⟩), .agg #[.int .i64 kd, .string sp, .string nm, .slice pa na ca, .slice pk nk ck, .string tx, .int .i64 at']] w fun e w' => ∃ g cap, e = .returned (.pointer (some ⟨g, m.top.kids.length * 7, none⟩)) ∧ BI X w' B pb { m with top := addKid k m.top } (a :: ads) (.slice (some ⟨g, 0, none⟩) (m.top.kids.length + 1) cap) vo vd p (xs ++ cells7 kd sp nm pa na ca pk nk ck tx at') ∧ KRow (holes w' (live (a :: ads) (.slice (some ⟨g, 0, none⟩) (m.top.kids.length + 1) cap) vo vd ++ X)) m.top.kids xs ∧ Goes w (live (a :: ads) v0 vo vd) w' (live (a :: ads) (.slice (some ⟨g, 0, none⟩) (m.top.kids.length + 1) cap) vo vd) ∧ Below B w w' := by
 obtain ⟨i0, hi0, hi1, hi3, hi4⟩ := info_parts kinfo_node
 obtain ⟨go, co, f7, fg, _⟩ := hI.inner
 have q7 := cAl f7
 have qg := cAl fg
 have cI := fun wx h1 h2 => bo_innermost pb ads.length (ads.length + 1) go co (.pointer (some ⟨a.1, a.2, none⟩)) wx rfl h1 h2 ha
 go_enter Tryz.func68, Tryz.ntmps68
 go_wp2_with fail
 refine (cI _ (q7 _) (qg _)).mono ?_
 rintro e w1 ⟨rfl, kk, hw1⟩
 have B1 : Below w.heap.size w w1 := by rw [hw1]; exact below_drewN ((Below.refl w.heap.size w).alloc (Nat.le_refl _) _) _
 have P1 : Blk w1 w.heap.size #[.int .i64 kd, .string sp, .string nm, .slice pa na ca, .slice pk nk ck, .string tx, .int .i64 at'] 25 := by rw [hw1]; exact Blk.new w _ _
 have r0 : w1.cell? ⟨w.heap.size, 0, none⟩ = some (.int .i64 kd) := P1.cell 0
 have r1 : w1.cell? ⟨w.heap.size, 1, none⟩ = some (.string sp) := P1.cell 1
 have r2 : w1.cell? ⟨w.heap.size, 2, none⟩ = some (.string nm) := P1.cell 2
 have r3 : w1.cell? ⟨w.heap.size, 3, none⟩ = some (.slice pa na ca) := P1.cell 3
 have r4 : w1.cell? ⟨w.heap.size, 4, none⟩ = some (.slice pk nk ck) := P1.cell 4
 have r5 : w1.cell? ⟨w.heap.size, 5, none⟩ = some (.string tx) := P1.cell 5
 have r6 : w1.cell? ⟨w.heap.size, 6, none⟩ = some (.int .i64 at') := P1.cell 6
 have I1 := hI.more B1
 clear hw1
 obtain ⟨a', r', har, pa0, ca0, ⟨_, _, _, _, g4, _, _⟩, _⟩ := I1.ti.top7
 injection har with e1 e2
 subst e1
 subst e2
 have hrow := I1.ti.row
 obtain ⟨A0, C0, rfl⟩ := row_val hrow
 have hn1 : (m.top.kids.length : Int) < (m.top.kids.length : Int) + 1 := by omega
 have hn2 : m.top.kids.length < m.top.kids.length + 1 := by omega
 have hl1 := I1.apart.2.2.2.2 a.1 (mem_live.2 (.inl (by simp)))
 have hfz := I1.afr
 have hne : ∀ g, (Value.slice A0 m.top.kids.length C0).ownBlock = some g → g ≠ a.1 := fun g hg e => (nodes_nodup.1 I1.ti.nodup).2 g hg (by rw [e]; simp)
 have hHne : ∀ g, (Value.slice A0 m.top.kids.length C0).ownBlock = some g → g ≠ w.heap.size := fun g hg e => by
  have := (row_kind hI.ti.row g hg).2.1
  omega
 have hz1 : w.heap.size < w1.heap.size := P1.lt
 have hxl := hrow.1
 generalize hH : w.heap.size = H at r0 r1 r2 r3 r4 r5 r6 hHne hz1 ⊢
 have hBz : B ≤ w1.heap.size + 1 := by have := B1.size; omega
 have HB1 := Lib.hid B1
 have HI := Lib.hid hI
 have HI1 := Lib.hid I1
 have HK := Lib.hid hk
 have HHH := Lib.hid hH
 have hnews : ∀ j u, ([.int .i64 0, .string ⟨#[]⟩, .string ⟨#[]⟩, .slice none 0 0, .slice none 0 0, .string ⟨#[]⟩, .int .i64 0] : List Value)[j]? = some u → (w1.alloc (.cells #[.int .i64 0, .string ⟨#[]⟩, .string ⟨#[]⟩, .slice none 0 0, .slice none 0 0, .string ⟨#[]⟩, .int .i64 0] 25)).drew.cell? ((⟨w1.heap.size, 0, none⟩ : Addr).add j) = some u := World.news_of_block (w := (w1.alloc (.cells #[.int .i64 0, .string ⟨#[]⟩, .string ⟨#[]⟩, .slice none 0 0, .slice none 0 0, .string ⟨#[]⟩, .int .i64 0] 25)).drew) (cs := #[.int .i64 0, .string ⟨#[]⟩, .string ⟨#[]⟩, .slice none 0 0, .slice none 0 0, .string ⟨#[]⟩, .int .i64 0]) (heap_alloc_new w1 _)
 have hown1 : (w1.alloc (.cells #[.int .i64 0, .string ⟨#[]⟩, .string ⟨#[]⟩, .slice none 0 0, .slice none 0 0, .string ⟨#[]⟩, .int .i64 0] 25)).drew.ownsRow B 25 7 (.slice A0 m.top.kids.length C0) m.top.kids.length xs := (hrow.alloc _).drew
 have hpost : ∀ (g cap : Nat) (w2 : World), w2.ownsRow B 25 7 (.slice (some ⟨g, 0, none⟩) (m.top.kids.length + 1) cap) (m.top.kids.length + 1) (xs ++ [.int .i64 0, .string ⟨#[]⟩, .string ⟨#[]⟩, .slice none 0 0, .slice none 0 0, .string ⟨#[]⟩, .int .i64 0]) → ((w1.alloc (.cells #[.int .i64 0, .string ⟨#[]⟩, .string ⟨#[]⟩, .slice none 0 0, .slice none 0 0, .string ⟨#[]⟩, .int .i64 0] 25)).drew).grownBy w2 (Value.slice A0 m.top.kids.length C0).ownBlock → (w2.cell? ⟨a.1, a.2 + 4, none⟩ = some (.slice A0 m.top.kids.length C0) ∧ w2.cell? ⟨H, 0, none⟩ = some (.int .i64 kd) ∧ w2.cell? ⟨H, 1, none⟩ = some (.string sp) ∧ w2.cell? ⟨H, 2, none⟩ = some (.string nm) ∧ w2.cell? ⟨H, 3, none⟩ = some (.slice pa na ca) ∧ w2.cell? ⟨H, 4, none⟩ = some (.slice pk nk ck) ∧ w2.cell? ⟨H, 5, none⟩ = some (.string tx) ∧ w2.cell? ⟨H, 6, none⟩ = some (.int .i64 at')) ∧ (w2.cell? ⟨g, m.top.kids.length * 7, none⟩ = some (.int .i64 0) ∧ w2.cell? ⟨g, m.top.kids.length * 7 + 1, none⟩ = some (.string ⟨#[]⟩) ∧ w2.cell? ⟨g, m.top.kids.length * 7 + 2, none⟩ = some (.string ⟨#[]⟩) ∧ w2.cell? ⟨g, m.top.kids.length * 7 + 3, none⟩ = some (.slice none 0 0) ∧ w2.cell? ⟨g, m.top.kids.length * 7 + 4, none⟩ = some (.slice none 0 0) ∧ w2.cell? ⟨g, m.top.kids.length * 7 + 5, none⟩ = some (.string ⟨#[]⟩) ∧ w2.cell? ⟨g, m.top.kids.length * 7 + 6, none⟩ = some (.int .i64 0)) ∧ (w2.frozen? ⟨g, m.top.kids.length * 7, none⟩ = false ∧ w2.frozen? ⟨g, m.top.kids.length * 7 + 1, none⟩ = false ∧ w2.frozen? ⟨g, m.top.kids.length * 7 + 2, none⟩ = false ∧ w2.frozen? ⟨g, m.top.kids.length * 7 + 3, none⟩ = false ∧ w2.frozen? ⟨g, m.top.kids.length * 7 + 4, none⟩ = false ∧ w2.frozen? ⟨g, m.top.kids.length * 7 + 5, none⟩ = false ∧ w2.frozen? ⟨g, m.top.kids.length * 7 + 6, none⟩ = false) ∧ w2.frozen? ⟨a.1, a.2 + 4, none⟩ = false := by
  intro g cap w2 hown2 hgrow
  refine ⟨⟨(hgrow.cell_far ⟨a.1, a.2 + 4, none⟩ (by simp; omega) (fun e => hne _ e.symm rfl)).trans (cAl g4 _), (hgrow.cell_far ⟨H, 0, none⟩ (by simp; omega) (fun e => hHne _ e.symm rfl)).trans (cAl r0 _), (hgrow.cell_far ⟨H, 1, none⟩ (by simp; omega) (fun e => hHne _ e.symm rfl)).trans (cAl r1 _), (hgrow.cell_far ⟨H, 2, none⟩ (by simp; omega) (fun e => hHne _ e.symm rfl)).trans (cAl r2 _), (hgrow.cell_far ⟨H, 3, none⟩ (by simp; omega) (fun e => hHne _ e.symm rfl)).trans (cAl r3 _), (hgrow.cell_far ⟨H, 4, none⟩ (by simp; omega) (fun e => hHne _ e.symm rfl)).trans (cAl r4 _), (hgrow.cell_far ⟨H, 5, none⟩ (by simp; omega) (fun e => hHne _ e.symm rfl)).trans (cAl r5 _), (hgrow.cell_far ⟨H, 6, none⟩ (by simp; omega) (fun e => hHne _ e.symm rfl)).trans (cAl r6 _)⟩, seven_cells hown2 hxl, ⟨World.ownsRow.frozenAt hown2 _, World.ownsRow.frozenAt hown2 _, World.ownsRow.frozenAt hown2 _, World.ownsRow.frozenAt hown2 _, World.ownsRow.frozenAt hown2 _, World.ownsRow.frozenAt hown2 _, World.ownsRow.frozenAt hown2 _⟩, (hgrow.frozen_far ⟨a.1, a.2 + 4, none⟩ (by simp; omega) (fun e => hne _ e.symm rfl)).trans ((World.frozen?_of_block (w := w1) (heap_alloc_old w1 _ hl1.2)).trans (hfz _))⟩
 have hgne : ∀ g, ((Value.slice A0 m.top.kids.length C0).ownBlock = some g ∨ g = w1.heap.size + 1) → g ≠ H := by
  rintro g (e | e)
  ·exact hHne g e
  ·omega
 have hgna : ∀ g, ((Value.slice A0 m.top.kids.length C0).ownBlock = some g ∨ g = w1.heap.size + 1) → g ≠ a.1 ∧ a.1 ≠ g := by
  rintro g (e | e)
  ·exact ⟨hne g e, (hne g e).symm⟩
  ·constructor <;> omega
 have haH : a.1 ≠ H := by
  have := (hI.apart.2.2.2.2 a.1 (mem_live.2 (.inl (by simp)))).2
  omega
 have hkS : ∀ (w' : World) (b o : Nat) (u : Value), b ≠ H → (w'.cell? ⟨H, 0, none⟩ = some (.int .i64 kd) ∧ w'.cell? ⟨H, 1, none⟩ = some (.string sp) ∧ w'.cell? ⟨H, 2, none⟩ = some (.string nm) ∧ w'.cell? ⟨H, 3, none⟩ = some (.slice pa na ca) ∧ w'.cell? ⟨H, 4, none⟩ = some (.slice pk nk ck) ∧ w'.cell? ⟨H, 5, none⟩ = some (.string tx) ∧ w'.cell? ⟨H, 6, none⟩ = some (.int .i64 at')) → ((w'.setCell ⟨b, o, none⟩ u).cell? ⟨H, 0, none⟩ = some (.int .i64 kd) ∧ (w'.setCell ⟨b, o, none⟩ u).cell? ⟨H, 1, none⟩ = some (.string sp) ∧ (w'.setCell ⟨b, o, none⟩ u).cell? ⟨H, 2, none⟩ = some (.string nm) ∧ (w'.setCell ⟨b, o, none⟩ u).cell? ⟨H, 3, none⟩ = some (.slice pa na ca) ∧ (w'.setCell ⟨b, o, none⟩ u).cell? ⟨H, 4, none⟩ = some (.slice pk nk ck) ∧ (w'.setCell ⟨b, o, none⟩ u).cell? ⟨H, 5, none⟩ = some (.string tx) ∧ (w'.setCell ⟨b, o, none⟩ u).cell? ⟨H, 6, none⟩ = some (.int .i64 at')) := by
  intro w' b o u hb hs
  have hc : ∀ k, (w'.setCell ⟨b, o, none⟩ u).cell? ⟨H, k, none⟩ = w'.cell? ⟨H, k, none⟩ := fun k => World.cell?_of_block (w := w') (Below.heap_setCell _ _ _ _ (fun e => hb e.symm))
  simp only [hc]
  exact hs
 have hSA : ∀ o, (w1.alloc o).drew.cell? ⟨H, 0, none⟩ = some (.int .i64 kd) ∧ (w1.alloc o).drew.cell? ⟨H, 1, none⟩ = some (.string sp) ∧ (w1.alloc o).drew.cell? ⟨H, 2, none⟩ = some (.string nm) ∧ (w1.alloc o).drew.cell? ⟨H, 3, none⟩ = some (.slice pa na ca) ∧ (w1.alloc o).drew.cell? ⟨H, 4, none⟩ = some (.slice pk nk ck) ∧ (w1.alloc o).drew.cell? ⟨H, 5, none⟩ = some (.string tx) ∧ (w1.alloc o).drew.cell? ⟨H, 6, none⟩ = some (.int .i64 at') := fun o => ⟨cAl r0 o, cAl r1 o, cAl r2 o, cAl r3 o, cAl r4 o, cAl r5 o, cAl r6 o⟩
 have hSD : w1.drew.cell? ⟨H, 0, none⟩ = some (.int .i64 kd) ∧ w1.drew.cell? ⟨H, 1, none⟩ = some (.string sp) ∧ w1.drew.cell? ⟨H, 2, none⟩ = some (.string nm) ∧ w1.drew.cell? ⟨H, 3, none⟩ = some (.slice pa na ca) ∧ w1.drew.cell? ⟨H, 4, none⟩ = some (.slice pk nk ck) ∧ w1.drew.cell? ⟨H, 5, none⟩ = some (.string tx) ∧ w1.drew.cell? ⟨H, 6, none⟩ = some (.int .i64 at') := ⟨r0, r1, r2, r3, r4, r5, r6⟩
 have g4a : ∀ o, (w1.alloc o).drew.cell? ⟨a.1, a.2 + 4, none⟩ = some (.slice A0 m.top.kids.length C0) := fun o => cAl g4 o
 have g4b : ∀ o, (w1.alloc o).cell? ⟨a.1, a.2 + 4, none⟩ = some (.slice A0 m.top.kids.length C0) := fun o => cAl g4 o
 have g4c : w1.drew.cell? ⟨a.1, a.2 + 4, none⟩ = some (.slice A0 m.top.kids.length C0) := g4
 clear hI hk q7 qg cI f7 fg I1 B1 hH P1 hrow hfz
 have r0a := cAl r0
 have r1a := cAl r1
 have r2a := cAl r2
 have r3a := cAl r3
 have r4a := cAl r4
 have r5a := cAl r5
 have r6a := cAl r6
 go_wp2
 go_region_law ((refine step_append_lies _ rfl (.tmp 11) (.tmp 14) 23 rfl B 25 i0 (.agg #[.int .i64 0, .string ⟨#[]⟩, .string ⟨#[]⟩, .slice none 0 0, .slice none 0 0, .string ⟨#[]⟩, .int .i64 0]) 7 112 Tryz.underlying23 hi0 hi1 hi3 hi4 rfl (by decide) (.slice A0 m.top.kids.length C0) m.top.kids.length xs (by simp [Act.eval, Act.put]) hown1 ⟨w1.heap.size, 0, none⟩ 1 1 [.int .i64 0, .string ⟨#[]⟩, .string ⟨#[]⟩, .slice none 0 0, .slice none 0 0, .string ⟨#[]⟩, .int .i64 0] (by simp [Act.eval, Act.put]) rfl hnews (by intro u hu; simp at hu; rcases hu with rfl | rfl | rfl | rfl | rfl | rfl | rfl <;> rfl) (by decide) (by unfold maxLen; omega) (by omega) (by simpa using hBz) (w1.heap.size + 1) (by simp) ?_; intro g cap w2 hown2 hgrow hat hlt; obtain ⟨⟨a4, hS2⟩, ⟨d0, d1, d2, d3, d4, d5, d6⟩, ⟨z0, z1, z2, z3, z4, z5, z6⟩, fa⟩ := hpost g cap w2 hown2 hgrow; have hgH : g ≠ H := hgne g hat; obtain ⟨hga, hag⟩ := hgna g hat))
 all_goals
  have hga' : ∀ (wx : World) (j : Nat) (u : Value), (wx.setCell ⟨a.1, a.2 + 4, none⟩ (.slice (some ⟨g, 0, none⟩) (m.top.kids.length + 1) cap)).setCell ⟨g, j, none⟩ u = (wx.setCell ⟨g, j, none⟩ u).setCell ⟨a.1, a.2 + 4, none⟩ (.slice (some ⟨g, 0, none⟩) (m.top.kids.length + 1) cap) := fun wx j u => set_comm _ _ _ _ _ hag
  try simp only [hga']
  have hR := row_store7 hown2 hxl (.int .i64 kd) (.string sp) (.string nm) (.slice pa na ca) (.slice pk nk ck) (.string tx) (.int .i64 at')
  clear d0 d1 d2 d3 d4 d5 d6 z0 z1 z2 z3 z4 z5 z6 hga' hS2 fa hpost hkS hSA hSD g4a g4b g4c r0 r1 r2 r3 r4 r5 r6
  generalize (((((((w2.setCell ⟨g, m.top.kids.length * 7, none⟩ (.int .i64 kd)).setCell ⟨g, m.top.kids.length * 7 + 1, none⟩ (.string sp)).setCell ⟨g, m.top.kids.length * 7 + 2, none⟩ (.string nm)).setCell ⟨g, m.top.kids.length * 7 + 3, none⟩ (.slice pa na ca)).setCell ⟨g, m.top.kids.length * 7 + 4, none⟩ (.slice pk nk ck)).setCell ⟨g, m.top.kids.length * 7 + 5, none⟩ (.string tx)).setCell ⟨g, m.top.kids.length * 7 + 6, none⟩ (.int .i64 at')) = W7 at hR ⊢
  obtain ⟨hR1, hR2⟩ := hR
  have hs7 : ∀ k, k < w.heap.size → (Value.slice A0 m.top.kids.length C0).ownBlock ≠ some k → W7.heap[k]? = w.heap[k]? := fun k hk hv => by
   have hb := HB1.out
   have h1 := hb.size
   have hkg : some k ≠ some g := fun e => by
    injection e with e
    rcases hat with x | x
    ·exact hv (e ▸ x)
    ·omega
   rw [hR2.block k (by have := hgrow.size; simp at this; omega) hkg, hgrow.block k (by simp; omega) (fun e => hv e.symm)]
   exact (heap_alloc_old w1 _ (by omega)).trans (hb.block k hk)
  have hz7 : w.heap.size ≤ W7.heap.size := by
   have := HB1.out.size
   have := hgrow.size
   have := hR2.size
   simp at *
   omega
  have hput := HI.out.put HK.out hR1 (hat.imp id (fun e => by have := HB1.out.size; omega)) hz7 hs7
  have hca : (W7.setCell ⟨a.1, a.2 + 4, none⟩ (.slice (some ⟨g, 0, none⟩) (m.top.kids.length + 1) cap)).cell? ⟨a.1, a.2 + 4, none⟩ = some (.slice (some ⟨g, 0, none⟩) (m.top.kids.length + 1) cap) := by
   obtain ⟨a', r', har, pa9, ca9, ⟨_, _, _, _, k4, _, _⟩, _⟩ := hput.1.ti.top7
   injection har with e1 e2
   subst e1
   exact k4
  have hbel : Below B w (W7.setCell ⟨a.1, a.2 + 4, none⟩ (.slice (some ⟨g, 0, none⟩) (m.top.kids.length + 1) cap)) := by
   have hlv := HI.out.apart.2.2.2.2
   have ha1 := hlv a.1 (mem_live.2 (.inl (by simp)))
   refine ⟨hR2.os.trans (hgrow.os.trans HB1.out.os), hR2.tape.trans (hgrow.tape.trans HB1.out.tape), hR2.output.trans (hgrow.output.trans HB1.out.output), by simp [World.setCell]; exact hz7, fun k hk => ?_⟩
   rw [Below.heap_setCell _ _ _ _ (fun e => by rw [show k = a.1 from e] at hk; omega)]
   exact hs7 k (by omega) (fun e => by have := (hlv k (mem_live.2 (.inr (.inl e)))).1; omega)
  have hw : IntKind.i64.wrap (((m.top.kids.length + 1 : Nat) : Int) - 1) = (m.top.kids.length : Int) := by rw [show ((m.top.kids.length + 1 : Nat) : Int) - 1 = (m.top.kids.length : Int) by omega]; exact wrap_small _ (by omega) (by omega)
  have hw' : IntKind.i64.wrap ((m.top.kids.length : Int) + 1 - 1) = (m.top.kids.length : Int) := by rw [show (m.top.kids.length : Int) + 1 - 1 = (m.top.kids.length : Int) by omega]; exact wrap_small _ (by omega) (by omega)
  have HP := Lib.hid hput
  have HBE := Lib.hid hbel
  clear hput hbel hR1 hR2 hs7 hz7 hown2 hgrow hat hown1 hnews
  generalize (W7.setCell ⟨a.1, a.2 + 4, none⟩ (.slice (some ⟨g, 0, none⟩) (m.top.kids.length + 1) cap)) = W8 at *
  go_wp2
  go_quiet (fail)
  go_wp2
  go_ret
  exact ⟨g, cap, rfl, HP.out.1.more (below_drewN (Below.refl _ _) _), KRow.go ((HP.out.2.trans (Goes.below (below_drewN (Below.refl _ _) _)) (by have := HBE.out.size; omega)).app X) _ _ HI.out.ti.kids, HP.out.2.trans (Goes.below (below_drewN (Below.refl _ _) _)) (by have := HBE.out.size; omega), below_drewN HBE.out _⟩
end
section
open Go.RowKit
def zeroA (x : AttrD) : AttrD := { x with at' := 0 }
mutual
def stripN : NodeD → NodeD
 | .mk k s n al kids tx _ => .mk k s n (al.map zeroA) (stripsN kids) tx 0
def stripsN : List NodeD → List NodeD
 | [] => []
 | k :: r => stripN k :: stripsN r
end
theorem stripsN_map : ∀ l : List NodeD, stripsN l = l.map stripN
 | [] => rfl
 | k :: r => by rw [stripsN, stripsN_map r]; rfl
mutual
def FreshIs (w : World) (B : Nat) : NodeD → Value → Prop
 | .mk kind sp nm al kids tx at', v => ∃ va vk xs, v = .agg #[.int .i64 kind, .string sp, .string nm, va, vk, .string tx, .int .i64 at'] ∧ w.ownsRow B 56 4 va al.length (aCs al) ∧ w.ownsRow B 25 7 vk kids.length xs ∧ FreshKids w B kids xs
def FreshKids (w : World) (B : Nat) : List NodeD → List Value → Prop
 | [], xs => xs = []
 | k :: r, xs => ∃ v0 v1 v2 v3 v4 v5 v6 ys, xs = v0 :: v1 :: v2 :: v3 :: v4 :: v5 :: v6 :: ys ∧ FreshIs w B k (.agg #[v0, v1, v2, v3, v4, v5, v6]) ∧ FreshKids w B r ys
end
mutual
theorem FreshIs.below {w w' : World} {B B' : Nat} (hb : Below w.heap.size w w') (hB : B' ≤ B) : ∀ (n : NodeD) (v : Value), FreshIs w B n v → FreshIs w' B' n v
 | .mk kind sp nm al kids tx at', v, h => by
  rw [FreshIs] at h ⊢
  obtain ⟨va, vk, xs, rfl, ha, hk, hr⟩ := h
  exact ⟨va, vk, xs, rfl, Go.Joins.ownsRow_le (row_below ha hb) hB, Go.Joins.ownsRow_le (row_below hk hb) hB, FreshKids.below hb hB kids xs hr⟩
theorem FreshKids.below {w w' : World} {B B' : Nat} (hb : Below w.heap.size w w') (hB : B' ≤ B) : ∀ (l : List NodeD) (xs : List Value), FreshKids w B l xs → FreshKids w' B' l xs
 | [], xs, h => by rw [FreshKids] at h ⊢; exact h
 | k :: r, xs, h => by
  rw [FreshKids] at h ⊢
  obtain ⟨v0, v1, v2, v3, v4, v5, v6, ys, rfl, hn, hr⟩ := h
  exact ⟨v0, v1, v2, v3, v4, v5, v6, ys, rfl, FreshIs.below hb hB k _ hn, FreshKids.below hb hB r ys hr⟩
end
theorem FreshKids.snoc {w : World} {B : Nat} {k : NodeD} {v0 v1 v2 v3 v4 v5 v6 : Value} (hk : FreshIs w B k (.agg #[v0, v1, v2, v3, v4, v5, v6])) : ∀ (l : List NodeD) (xs : List Value), FreshKids w B l xs → FreshKids w B (l ++ [k]) (xs ++ [v0, v1, v2, v3, v4, v5, v6])
 | [], xs, h => by
  rw [FreshKids] at h
  subst h
  rw [List.nil_append, FreshKids]
  exact ⟨v0, v1, v2, v3, v4, v5, v6, [], rfl, hk, by rw [FreshKids]⟩
 | x :: r, xs, h => by
  rw [FreshKids] at h
  obtain ⟨u0, u1, u2, u3, u4, u5, u6, ys, rfl, hn, hr⟩ := h
  rw [List.cons_append, FreshKids]
  exact ⟨u0, u1, u2, u3, u4, u5, u6, ys ++ [v0, v1, v2, v3, v4, v5, v6], rfl, hn, FreshKids.snoc hk r ys hr⟩
theorem fresh_val {w : World} {B : Nat} {n : NodeD} {v : Value} (h : FreshIs w B n v) : ∃ pa ca pk ck, v = .agg #[.int .i64 n.kind, .string n.sp, .string n.nm, .slice pa n.al.length ca, .slice pk n.kids.length ck, .string n.tx, .int .i64 n.at'] := by
 cases n with
 | mk kind sp nm al kids tx at' =>
  rw [FreshIs] at h
  obtain ⟨va, vk, xs, rfl, ha, hk, _⟩ := h
  obtain ⟨pa, ca, rfl⟩ := row_val ha
  obtain ⟨pk, ck, rfl⟩ := row_val hk
  exact ⟨pa, ca, pk, ck, rfl⟩
theorem row_hole {w : World} {L : List Nat} {B : Nat} {e : TypeId} {k n : Nat} {v : Value} {xs : List Value} (h : w.ownsRow B e k v n xs) (hL : ∀ b ∈ L, b < B) : (holes w L).ownsRow B e k v n xs :=
 rowSame h (fun g hg => holes_ne w L g (fun e => by have := (row_kind h g hg).1; have := hL g e; omega))
end
section
open Go.RowKit
def nodeZs : Array Value := #[.int .i64 0, .string ⟨#[]⟩, .string ⟨#[]⟩, .slice none 0 0, .slice none 0 0, .string ⟨#[]⟩, .int .i64 0]
theorem Blk.seven {w : World} {b : Nat} {T : TypeId} (h : Blk w b nodeZs T) : (w.cell? ⟨b, 0, none⟩ = some (.int .i64 0) ∧ w.cell? ⟨b, 1, none⟩ = some (.string ⟨#[]⟩) ∧ w.cell? ⟨b, 2, none⟩ = some (.string ⟨#[]⟩) ∧ w.cell? ⟨b, 3, none⟩ = some (.slice none 0 0) ∧ w.cell? ⟨b, 4, none⟩ = some (.slice none 0 0) ∧ w.cell? ⟨b, 5, none⟩ = some (.string ⟨#[]⟩) ∧ w.cell? ⟨b, 6, none⟩ = some (.int .i64 0)) ∧ (w.frozen? ⟨b, 0, none⟩ = false ∧ w.frozen? ⟨b, 1, none⟩ = false ∧ w.frozen? ⟨b, 2, none⟩ = false ∧ w.frozen? ⟨b, 3, none⟩ = false ∧ w.frozen? ⟨b, 4, none⟩ = false ∧ w.frozen? ⟨b, 5, none⟩ = false ∧ w.frozen? ⟨b, 6, none⟩ = false) :=
 ⟨⟨h.cell 0, h.cell 1, h.cell 2, h.cell 3, h.cell 4, h.cell 5, h.cell 6⟩, h.fr 0, h.fr 1, h.fr 2, h.fr 3, h.fr 4, h.fr 5, h.fr 6⟩
set_option maxHeartbeats 400000 in
theorem tref_fail (p : Nat) (A : Option Addr) (n c : Nat) (i a0 e0 a e : Int) (w : World) (hP : Par w p A n c i a0 e0) :
  Calls Tryz.prog 53 #[.pointer (some ⟨p, 0, none⟩), .int .i64 a, .int .i64 e] w fun en w' => en = .returned zeroV ∧ Par w' p A n c i a e ∧ Keep p w w' := by
 have hpn : p < w.heap.size := hP.lt
 obtain ⟨W2, hW2⟩ : ∃ W2, W2 = ((w.setCell ⟨p, 2, none⟩ (.int .i64 a)).setCell ⟨p, 3, none⟩ (.int .i64 e)).alloc (.cells #[.int .i64 0, .string ⟨#[]⟩, .string ⟨#[]⟩, .slice none 0 0, .slice none 0 0, .string ⟨#[]⟩, .int .i64 0] 25) := ⟨_, rfl⟩
 have D2 := Lib.hid (show Par W2 p A n c i a e by rw [hW2]; exact ((hP.set2 a).set3 e).keep ((Below.refl _ _).alloc (Nat.le_refl _) _))
 have K2 := Lib.hid (show Keep p w W2 by rw [hW2]; exact (((Keep.refl p w).set 2 (.int .i64 a)).set 3 (.int .i64 e)).alloc _)
 have B2 : Blk W2 w.heap.size nodeZs 25 := by
  have := Blk.new ((w.setCell ⟨p, 2, none⟩ (.int .i64 a)).setCell ⟨p, 3, none⟩ (.int .i64 e)) nodeZs 25
  rw [show ((w.setCell ⟨p, 2, none⟩ (.int .i64 a)).setCell ⟨p, 3, none⟩ (.int .i64 e)).heap.size = w.heap.size by simp [World.setCell]] at this
  rw [hW2]
  exact this
 obtain ⟨⟨r0, r1, r2, r3, r4, r5, r6⟩, g0, g1, g2, g3, g4, g5, g6⟩ := B2.seven
 have c2 := hP.cells.2.2.1
 have c3 := hP.cells.2.2.2
 have f2 := hP.frz 2
 have f3 := hP.frz 3
 clear hP B2
 go_enter Tryz.func53, Tryz.ntmps53
 go_upto_region 3 with fail
 simp only [← hW2]
 clear c2 c3 f2 f3 hW2
 generalize hq : w.heap.size = hs at r0 r1 r2 r3 r4 r5 r6 g0 g1 g2 g3 g4 g5 g6 hpn ⊢
 have HQ := Lib.hid hq
 clear hq
 go_wp2
 exact bodyPost_ret (v := zeroV) (by simp [results, Tryz.results53, go_sem, cSs, r0, r1, r2, r3, r4, r5, r6, zeroV]) rfl ⟨rfl, ((((((D2.out.own (q := ⟨hs, 0, none⟩) (by show hs ≠ p; omega) _).own (q := ⟨hs, 1, none⟩) (by show hs ≠ p; omega) _).own (q := ⟨hs, 2, none⟩) (by show hs ≠ p; omega) _).own (q := ⟨hs, 3, none⟩) (by show hs ≠ p; omega) _).own (q := ⟨hs, 4, none⟩) (by show hs ≠ p; omega) _).own (q := ⟨hs, 5, none⟩) (by show hs ≠ p; omega) _).own (q := ⟨hs, 6, none⟩) (by show hs ≠ p; omega) _, ((((((K2.out.own (q := ⟨hs, 0, none⟩) (by show w.heap.size ≤ hs; have := HQ.out; omega) _).own (q := ⟨hs, 1, none⟩) (by show w.heap.size ≤ hs; have := HQ.out; omega) _).own (q := ⟨hs, 2, none⟩) (by show w.heap.size ≤ hs; have := HQ.out; omega) _).own (q := ⟨hs, 3, none⟩) (by show w.heap.size ≤ hs; have := HQ.out; omega) _).own (q := ⟨hs, 4, none⟩) (by show w.heap.size ≤ hs; have := HQ.out; omega) _).own (q := ⟨hs, 5, none⟩) (by show w.heap.size ≤ hs; have := HQ.out; omega) _).own (q := ⟨hs, 6, none⟩) (by show w.heap.size ≤ hs; have := HQ.out; omega) _⟩
end
section
open Go.RowKit
mutual
def NodeD.acnt : NodeD → Nat
 | .mk _ _ _ al kids _ _ => al.length + acnts kids
def acnts : List NodeD → Nat
 | [] => 0
 | k :: r => k.acnt + acnts r
end
theorem acnt_eq (n : NodeD) : n.acnt = n.al.length + acnts n.kids := by cases n; rw [NodeD.acnt]; rfl
theorem acnts_mem : ∀ (l : List NodeD) (k : NodeD), k ∈ l → k.acnt ≤ acnts l
 | [], _, h => by cases h
 | x :: r, k, h => by
  rw [acnts]
  rcases List.mem_cons.1 h with rfl | h
  ·omega
  ·have := acnts_mem r k h
   omega
end
section
open Go.RowKit
theorem TokensAt.mono {w w' : World} (hm : ∀ a v, w.cell? a = some v → w'.cell? a = some v) {p : Option Addr} {l : List TokD} (h : TokensAt w p l) : TokensAt w' p l := by
 intro i hi
 obtain ⟨a, q, c, ha, ⟨h0, h1, h2, h3, h4, h5⟩, h6⟩ := h i hi
 exact ⟨a, q, c, ha, ⟨hm _ _ h0, hm _ _ h1, hm _ _ h2, hm _ _ h3, hm _ _ h4, hm _ _ h5⟩, h6.mono hm⟩
theorem TokensAt.go {w w' : World} {L L' : List Nat} {p : Option Addr} {l : List TokD} (h : TokensAt (holes w L) p l) (hg : Goes w L w' L') : TokensAt (holes w' L') p l := h.mono (fun a u => hg.cell a u)
theorem KRow.one {wc : World} : ∀ (l : List NodeD) (xs : List Value), KRow wc l xs → ∀ u ∈ xs, u.oneCell' = true
 | [], xs, h => by rw [KRow] at h; subst h; intro u hu; cases hu
 | k :: r, xs, h => by
  obtain ⟨v0, v1, v2, v3, v4, v5, v6, ys, rfl, hn, hr⟩ := h
  obtain ⟨pa, ca, pk, ck, hv, _, _⟩ := (node_is wc k _).1 hn
  simp only [Value.agg.injEq, Array.mk.injEq, List.cons.injEq, and_true] at hv
  obtain ⟨rfl, rfl, rfl, rfl, rfl, rfl, rfl⟩ := hv
  intro u hu
  simp only [List.mem_cons] at hu
  rcases hu with rfl | rfl | rfl | rfl | rfl | rfl | rfl | hu
  all_goals first | rfl | exact KRow.one r ys hr u hu
def LeftOut (w0 : World) (p : Nat) (A : Option Addr) (l : List TokD) (L : List Nat) : Prop := (∀ b ∈ L, b < w0.heap.size) ∧ p ∈ L ∧ TokensAt (holes w0 L) A l
structure ElR (w0 : World) (p : Nat) (A : Option Addr) (nt ct : Nat) (l : List TokD) (hs : Nat) (t : TokD) (qa : Option Addr) (ca : Nat) (a0 : Int) (i : Nat) (kids : List NodeD) (vk : Value) (xs : List Value) (w : World) : Prop where
 zs : w0.heap.size = hs
 plt : p < hs
 par : Par w p A nt ct (i : Int) a0 0
 res : Blk w hs nodeZs 25
 tok : Blk w (hs + 1) #[.int .i64 t.kind, .string (oB t.nm), .slice qa t.al.length ca, .bool t.em, .string (oB t.tx), .int .i64 t.at'] 73
 nod : Blk w (hs + 2) #[.int .i64 0, .string ⟨#[]⟩, .string (oB t.nm), .slice qa t.al.length ca, vk, .string ⟨#[]⟩, .int .i64 t.at'] 25
 row : w.ownsRow (hs + 3) 25 7 vk kids.length xs
 kids : ∀ L, LeftOut w0 p A l L → KRow (holes w (L ++ [hs, hs + 1, hs + 2] ++ vk.ownBlock.toList)) kids xs
 keep : Keep p w0 w
theorem own_lt {w : World} {B : Nat} {e : TypeId} {k n : Nat} {v : Value} {xs : List Value} (h : w.ownsRow B e k v n xs) : ∀ b ∈ v.ownBlock.toList, B ≤ b ∧ b < w.heap.size := by
 intro b hb
 have : v.ownBlock = some b := by simpa using hb
 obtain ⟨h1, h2, _⟩ := row_kind h b this
 exact ⟨h1, h2⟩
section
variable {w0 : World} {p : Nat} {A : Option Addr} {nt ct : Nat} {l : List TokD} {hs : Nat} {t : TokD} {qa : Option Addr} {ca : Nat} {a0 : Int} {i : Nat} {kids : List NodeD} {vk : Value} {xs : List Value} {w : World}
theorem ElR.lt (h : ElR w0 p A nt ct l hs t qa ca a0 i kids vk xs w) : hs + 3 ≤ w.heap.size := h.nod.lt
theorem ElR.keeps (h : ElR w0 p A nt ct l hs t qa ca a0 i kids vk xs w) {w' : World} {j : Nat} (hk : Keep p w w') (hP : Par w' p A nt ct (j : Int) a0 0) : ElR w0 p A nt ct l hs t qa ca a0 j kids vk xs w' := by
 have hp := h.plt
 refine ⟨h.zs, hp, hP, h.res.keep hk (by omega), h.tok.keep hk (by omega), h.nod.keep hk (by omega), hk.row h.row (by omega), fun L hL => KRow.go (Goes.keep hk ?_) _ _ (h.kids L hL), h.keep.trans hk⟩
 exact List.mem_append_left _ (List.mem_append_left _ hL.2.1)
theorem ElR.below (h : ElR w0 p A nt ct l hs t qa ca a0 i kids vk xs w) {w' : World} (hb : Below w.heap.size w w') : ElR w0 p A nt ct l hs t qa ca a0 i kids vk xs w' := h.keeps (Keep.of hb) (h.par.keep hb)
theorem ElR.outs (h : ElR w0 p A nt ct l hs t qa ca a0 i kids vk xs w) {L : List Nat} (hL : LeftOut w0 p A l L) : LeftOut w p A l (L ++ [hs, hs + 1, hs + 2] ++ vk.ownBlock.toList) := by
 have hz := h.lt
 have hzs := h.zs
 refine ⟨fun b hb => ?_, List.mem_append_left _ (List.mem_append_left _ hL.2.1), hL.2.2.go (fun k hk hn => ⟨fun e => ?_, h.keep.block k hk (fun e => hn (e ▸ hL.2.1))⟩)⟩
 ·rcases List.mem_append.1 hb with hb | hb
  ·rcases List.mem_append.1 hb with hb | hb
   ·have := hL.1 b hb; omega
   ·simp at hb; omega
  ·exact (own_lt h.row b hb).2
 ·rcases List.mem_append.1 e with e | e
  ·rcases List.mem_append.1 e with e | e
   ·exact hn e
   ·simp at e; omega
  ·have := (own_lt h.row k e).1; omega
theorem ElR.res1 (h : ElR w0 p A nt ct l hs t qa ca a0 i kids vk xs w) {L : List Nat} (hL : LeftOut w0 p A l L) : LeftOut w p A l (L ++ [hs]) := by
 have hz := h.lt
 have hzs := h.zs
 refine ⟨fun b hb => ?_, List.mem_append_left _ hL.2.1, hL.2.2.go (fun k hk hn => ⟨fun e => ?_, h.keep.block k hk (fun e => hn (e ▸ hL.2.1))⟩)⟩
 ·rcases List.mem_append.1 hb with hb | hb
  ·have := hL.1 b hb; omega
  ·simp at hb; omega
 ·rcases List.mem_append.1 e with e | e
  ·exact hn e
  ·simp at e; omega
theorem ElR.push (h : ElR w0 p A nt ct l hs t qa ca a0 i kids vk xs w) {k : NodeD} {c0 c1 c2 c3 c4 c5 c6 v5 : Value} {w4 : World} (hb : Below w.heap.size w w4)
  (hk : ∀ L, LeftOut w0 p A l L → NodeIs (holes w (L ++ [hs, hs + 1, hs + 2] ++ vk.ownBlock.toList)) k (.agg #[c0, c1, c2, c3, c4, c5, c6]))
  (hr : w4.ownsRow w.heap.size 25 7 v5 (kids.length + 1) (xs ++ [c0, c1, c2, c3, c4, c5, c6])) :
  ElR w0 p A nt ct l hs t qa ca a0 i (kids ++ [k]) v5 (xs ++ [c0, c1, c2, c3, c4, c5, c6]) (w4.setCell ⟨hs + 2, 4, none⟩ v5) := by
 have hz := h.lt
 have hp := h.plt
 have hzs := h.zs
 have hl4 := own_lt hr
 have hne : ∀ g, v5.ownBlock = some g → g ≠ hs + 2 := fun g hg => by have := (hl4 g (by rw [hg]; simp)).1; omega
 refine ⟨hzs, hp, (h.par.keep hb).own (by show hs + 2 ≠ p; omega) _, (h.res.more hb).own (by show hs + 2 ≠ hs; omega) _, (h.tok.more hb).own (by show hs + 2 ≠ hs + 1; omega) _, ?_, ?_, fun L hL => ?_, (h.keep.more hb).own (by show w0.heap.size ≤ hs + 2; omega) _⟩
 ·exact (h.nod.more hb).set 4 v5
 ·rw [List.length_append, List.length_singleton]
  have := rowSame (w' := w4.setCell ⟨hs + 2, 4, none⟩ v5) hr (fun g hg => Below.heap_setCell _ _ _ _ (hne g hg))
  refine ⟨this.1, ?_⟩
  rcases this.2 with h2 | ⟨g, cap, cur, hv, hg, hh, r⟩
  ·exact .inl h2
  ·exact .inr ⟨g, cap, cur, hv, by omega, hh, r⟩
 ·have hgo : Goes w (L ++ [hs, hs + 1, hs + 2] ++ vk.ownBlock.toList) (w4.setCell ⟨hs + 2, 4, none⟩ v5) (L ++ [hs, hs + 1, hs + 2] ++ v5.ownBlock.toList) := fun b hb1 hb2 => by
   refine ⟨fun e => ?_, (Below.heap_setCell _ _ _ _ (fun e => ?_)).trans (hb.block b hb1)⟩
   ·rcases List.mem_append.1 e with e | e
    ·exact hb2 (List.mem_append_left _ e)
    ·have := (hl4 b e).1; omega
   ·exact hb2 (List.mem_append_left _ (List.mem_append_right _ (by rw [show b = hs + 2 from e]; simp)))
  exact KRow.snoc ((hk L hL).go hgo) _ _ (KRow.go hgo _ _ (h.kids L hL))
theorem ElR.last {k : NodeD} {ks : List NodeD} (h : ElR w0 p A nt ct l hs t qa ca a0 i (ks ++ [k]) vk xs w) {L : List Nat} (hL : LeftOut w0 p A l L) : ∃ g cap ys v1 v2 v3 v4 v6, vk = .slice (some ⟨g, 0, none⟩) (ks.length + 1) cap ∧ hs + 3 ≤ g ∧ xs = ys ++ [.int .i64 k.kind, v1, v2, v3, v4, .string k.tx, v6] ∧ ys.length = ks.length * 7 ∧ w.cell? ⟨g, ks.length * 7, none⟩ = some (.int .i64 k.kind) ∧ w.cell? ⟨g, ks.length * 7 + 5, none⟩ = some (.string k.tx) ∧ w.frozen? ⟨g, ks.length * 7 + 5, none⟩ = false := by
 have hr := h.row
 rw [List.length_append, List.length_singleton] at hr
 obtain ⟨g, cap, rfl, hg, _⟩ := hr.form (by omega)
 obtain ⟨ys, v0, v1, v2, v3, v4, v5, v6, rfl, hy, hn⟩ := KRow.last _ _ (h.kids L hL)
 obtain ⟨pa, ca, pk, ck, hv, _, _⟩ := (node_is _ k _).1 hn
 simp only [Value.agg.injEq, Array.mk.injEq, List.cons.injEq, and_true] at hv
 obtain ⟨rfl, rfl, rfl, rfl, rfl, rfl, rfl⟩ := hv
 obtain ⟨d0, d1, d2, d3, d4, d5, d6⟩ := seven_cells hr hy.len
 exact ⟨g, cap, ys, _, _, _, _, _, rfl, hg, rfl, hy.len, d0, d5, World.ownsRow.frozenAt hr _⟩
theorem ElR.more {k : NodeD} {ks : List NodeD} (h : ElR w0 p A nt ct l hs t qa ca a0 i (ks ++ [k]) vk xs w) (u : TokD) {g cap : Nat} {ys : List Value} {v1 v2 v3 v4 v6 : Value} (hv : vk = .slice (some ⟨g, 0, none⟩) (ks.length + 1) cap) (hg : hs + 3 ≤ g) (hx : xs = ys ++ [.int .i64 k.kind, v1, v2, v3, v4, .string k.tx, v6]) (hy : ys.length = ks.length * 7) :
  ElR w0 p A nt ct l hs t qa ca a0 i (ks ++ [moreN u k]) vk (ys ++ [.int .i64 k.kind, v1, v2, v3, v4, .string (k.tx ++ oB u.tx), v6]) (w.setCell ⟨g, ks.length * 7 + 5, none⟩ (.string (k.tx ++ oB u.tx))) := by
 subst hv
 subst hx
 have hz := h.lt
 have hp := h.plt
 have hzs := h.zs
 have hr := h.row
 rw [List.length_append, List.length_singleton] at hr
 obtain ⟨s1, s2⟩ := hr.stored (ks.length * 7 + 5) (.string (k.tx ++ oB u.tx))
 rw [List.set_append_right _ _ (by omega), show ks.length * 7 + 5 - ys.length = 5 by omega] at s1
 refine ⟨hzs, hp, h.par.own (by show g ≠ p; omega) _, h.res.own (by show g ≠ hs; omega) _, h.tok.own (by show g ≠ hs + 1; omega) _, h.nod.own (by show g ≠ hs + 2; omega) _, ?_, fun L hL => ?_, h.keep.own (by show w0.heap.size ≤ g; omega) _⟩
 ·rw [List.length_append, List.length_singleton]
  exact s1
 ·have hgo : Goes w (L ++ [hs, hs + 1, hs + 2] ++ (Value.slice (some ⟨g, 0, none⟩) (ks.length + 1) cap).ownBlock.toList) (w.setCell ⟨g, ks.length * 7 + 5, none⟩ (.string (k.tx ++ oB u.tx))) (L ++ [hs, hs + 1, hs + 2] ++ (Value.slice (some ⟨g, 0, none⟩) (ks.length + 1) cap).ownBlock.toList) :=
   Goes.set (a := ⟨g, ks.length * 7 + 5, none⟩) (List.mem_append_right _ (by simp [Value.ownBlock])) _
  obtain ⟨ys', u0, u1, u2, u3, u4, u5, u6, hxs, hyk, hn⟩ := KRow.last _ _ (h.kids L hL)
  have hlen : ys.length = ys'.length := by have := hyk.len; omega
  obtain ⟨rfl, hcs⟩ := List.append_inj hxs hlen
  simp only [List.cons.injEq, and_true] at hcs
  obtain ⟨rfl, rfl, rfl, rfl, rfl, rfl, rfl⟩ := hcs
  refine KRow.snoc ?_ _ _ (KRow.go hgo _ _ hyk)
  have hn2 := hn.go hgo
  obtain ⟨pa, ca, pk, ck, hv, h1, h2⟩ := (node_is _ k _).1 hn2
  simp only [Value.agg.injEq, Array.mk.injEq, List.cons.injEq, and_true] at hv
  obtain ⟨-, rfl, rfl, rfl, rfl, -, rfl⟩ := hv
  refine (node_is _ (moreN u k) _).2 ⟨pa, ca, pk, ck, ?_, ?_, ?_⟩
  ·cases k; rfl
  ·cases k; exact h1
  ·cases k; exact h2
theorem ElR.node (h : ElR w0 p A nt ct l hs t qa ca a0 i kids vk xs w) {L : List Nat} (hL : LeftOut w0 p A l L) (hA : AttrsAt (holes w0 L) qa t.al) : NodeIs (holes w (L ++ [hs])) (elemN t kids) (.agg #[.int .i64 0, .string ⟨#[]⟩, .string (oB t.nm), .slice qa t.al.length ca, vk, .string ⟨#[]⟩, .int .i64 t.at']) := by
 have hzs := h.zs
 obtain ⟨pk, ck, rfl, hk⟩ := row_kids (L' := L ++ [hs]) h.row (h.kids L hL) (fun b hb => by
  rcases List.mem_append.1 hb with hb | hb
  ·exact List.mem_append_left _ (List.mem_append_left _ hb)
  ·exact List.mem_append_left _ (List.mem_append_right _ (by simp at hb; simp [hb]))) (fun g hg e => by
  have := (own_lt h.row g (by rw [hg]; simp)).1
  rcases List.mem_append.1 e with e | e
  ·have := hL.1 g e; omega
  ·simp at e; omega)
 refine (node_is _ (elemN t kids) _).2 ⟨qa, ca, pk, ck, rfl, hA.go (fun b hb hn => ⟨fun e => ?_, h.keep.block b hb (fun e => hn (e ▸ hL.2.1))⟩), hk⟩
 rcases List.mem_append.1 e with e | e
 ·exact hn e
 ·simp at e; omega
end
def ElIs (w0 : World) (p : Nat) (A : Option Addr) (nt ct : Nat) (l : List TokD) (a0 : Int) (r : NodeD × Nat × Int × Int) (e : Ending) (w' : World) : Prop :=
 ∃ v, e = .returned v ∧ (∃ j a1, Par w' p A nt ct j a1 r.2.2.2 ∧ (r.2.2.2 = 0 → j = (r.2.1 : Int) ∧ a1 = a0) ∧ (r.2.2.2 ≠ 0 → a1 = r.2.2.1)) ∧ Keep p w0 w' ∧ ∀ L, LeftOut w0 p A l L → NodeIs (holes w' L) r.1 v
theorem node_res {w w' : World} {L : List Nat} {R : Nat} {n : NodeD} {v : Value} (h : NodeIs (holes w (L ++ [R])) n v) (hk : Keep R w w') : NodeIs (holes w' L) n v :=
 h.go (fun b hb hn => ⟨fun e => hn (List.mem_append_left _ e), hk.block b hb (fun e => hn (List.mem_append_right _ (by rw [e]; simp)))⟩)
end
section
open Go.RowKit
theorem made_own (w : World) (B : Nat) (hB : B ≤ w.heap.size) : (w.alloc (.cells #[] 25)).ownsRow B 25 7 (.slice (some ⟨w.heap.size, 0, none⟩) 0 0) 0 [] :=
 World.ownsRow_made w #[] 0 hB (Nat.zero_le _) rfl
theorem row_news {wq W : World} {B g n cap : Nat} {xs : List Value} (h : wq.ownsRow B 25 7 (.slice (some ⟨g, 0, none⟩) n cap) n xs) (hb : Below wq.heap.size wq W) : ∀ j u, xs[j]? = some u → W.cell? ((⟨g, 0, none⟩ : Addr).add j) = some u :=
 fun j u hu => (row_below h hb).cells (g := g) rfl j u hu
section
variable {ops : Array Oper} {o : Oper} {a : Act} {w : World} {K : Act → World → Prop} {Q : Exit → Act → World → Prop} {E : Prop}
theorem step_copy (hgd : o.guard = none) (s x : Operand) (ho : o.op = .call { callee := .builtin .append, args := #[s, x], argTypes := #[23, 23] }) (B b g n cap : Nat) (xs : List Value)
  (hs : a.eval s = .slice (some ⟨b, 0, none⟩) 0 0) (hx : a.eval x = .slice (some ⟨g, 0, none⟩) n cap) (hown : w.ownsRow B 25 7 (.slice (some ⟨b, 0, none⟩) 0 0) 0 []) (hl : xs.length = n * 7)
  (hnews : ∀ j u, xs[j]? = some u → w.cell? ((⟨g, 0, none⟩ : Addr).add j) = some u) (h1 : ∀ u ∈ xs, u.oneCell' = true) (hm : 0 < n) (hn : n ≤ 1000000000) (hB : B ≤ w.heap.size)
  (h : ∀ g' cap' w', w'.ownsRow B 25 7 (.slice (some ⟨g', 0, none⟩) n cap') n xs → w.grownBy w' (some b) → B ≤ g' → K (a.put o.dst (.slice (some ⟨g', 0, none⟩) n cap')) w') : if Region.wanted o (yielded ops a.tmps) = true then Oper.wp Tryz.prog o a w K Q else E := by
 obtain ⟨i0, hi0, hi1, hi3, hi4⟩ := info_parts kinfo_node
 refine step_append_lies w hgd s x 23 ho B 25 i0 (.agg #[.int .i64 0, .string ⟨#[]⟩, .string ⟨#[]⟩, .slice none 0 0, .slice none 0 0, .string ⟨#[]⟩, .int .i64 0]) 7 112 Tryz.underlying23 hi0 hi1 hi3 hi4 rfl (by decide) _ 0 [] hs hown ⟨g, 0, none⟩ n cap xs hx hl hnews h1 hm (by unfold maxLen; omega) (by omega) hB w.heap.size rfl ?_
 intro g' cap' w' hown' hgrow _ _
 rw [Nat.zero_add, List.nil_append] at hown'
 rw [Nat.zero_add]
 obtain ⟨g2, c2, e, hb, _⟩ := hown'.form hm
 injection e with e1 _ _
 injection e1 with e1
 injection e1 with e1 _ _
 exact h g' cap' w' hown' hgrow (by omega)
theorem step_one (hgd : o.guard = none) (s x : Operand) (ho : o.op = .call { callee := .builtin .append, args := #[s, x], argTypes := #[23, 23] }) (B b n : Nat) (xs : List Value) (v c0 c1 c2 c3 c4 c5 c6 : Value)
  (hs : a.eval s = v) (hx : a.eval x = .slice (some ⟨b, 0, none⟩) 1 1) (hown : w.ownsRow B 25 7 v n xs) (hblk : w.heap[b]? = some (.cells #[c0, c1, c2, c3, c4, c5, c6] 25 (0, 0)))
  (h1 : ∀ u ∈ [c0, c1, c2, c3, c4, c5, c6], u.oneCell' = true) (hn : n ≤ 1000000000) (hB : B ≤ w.heap.size)
  (h : ∀ g' cap' w', w'.ownsRow B 25 7 (.slice (some ⟨g', 0, none⟩) (n + 1) cap') (n + 1) (xs ++ [c0, c1, c2, c3, c4, c5, c6]) → w.grownBy w' v.ownBlock → K (a.put o.dst (.slice (some ⟨g', 0, none⟩) (n + 1) cap')) w') : if Region.wanted o (yielded ops a.tmps) = true then Oper.wp Tryz.prog o a w K Q else E := by
 obtain ⟨i0, hi0, hi1, hi3, hi4⟩ := info_parts kinfo_node
 refine step_append_lies w hgd s x 23 ho B 25 i0 (.agg #[.int .i64 0, .string ⟨#[]⟩, .string ⟨#[]⟩, .slice none 0 0, .slice none 0 0, .string ⟨#[]⟩, .int .i64 0]) 7 112 Tryz.underlying23 hi0 hi1 hi3 hi4 rfl (by decide) v n xs hs hown ⟨b, 0, none⟩ 1 1 [c0, c1, c2, c3, c4, c5, c6] hx rfl (World.news_of_block hblk) h1 (by decide) (by unfold maxLen; omega) (by omega) hB w.heap.size rfl ?_
 intro g' cap' w' hown' hgrow _ _
 exact h g' cap' w' hown' hgrow
end
def NK (N Kb : Nat) (vk c0 c1 c2 c3 c4 c5 c6 : Value) (w : World) : Prop := w.cell? ⟨N, 4, none⟩ = some vk ∧ w.cell? ⟨Kb, 0, none⟩ = some c0 ∧ w.cell? ⟨Kb, 1, none⟩ = some c1 ∧ w.cell? ⟨Kb, 2, none⟩ = some c2 ∧ w.cell? ⟨Kb, 3, none⟩ = some c3 ∧ w.cell? ⟨Kb, 4, none⟩ = some c4 ∧ w.cell? ⟨Kb, 5, none⟩ = some c5 ∧ w.cell? ⟨Kb, 6, none⟩ = some c6
theorem NK.below {N Kb : Nat} {vk c0 c1 c2 c3 c4 c5 c6 : Value} {w w' : World} (h : NK N Kb vk c0 c1 c2 c3 c4 c5 c6 w) {B : Nat} (hb : Below B w w') (hN : N < B) (hK : Kb < B) : NK N Kb vk c0 c1 c2 c3 c4 c5 c6 w' := by
 obtain ⟨h0, h1, h2, h3, h4, h5, h6, h7⟩ := h
 exact ⟨(hb.cell (p := ⟨N, 4, none⟩) hN).trans h0, (hb.cell (p := ⟨Kb, 0, none⟩) hK).trans h1, (hb.cell (p := ⟨Kb, 1, none⟩) hK).trans h2, (hb.cell (p := ⟨Kb, 2, none⟩) hK).trans h3, (hb.cell (p := ⟨Kb, 3, none⟩) hK).trans h4, (hb.cell (p := ⟨Kb, 4, none⟩) hK).trans h5, (hb.cell (p := ⟨Kb, 5, none⟩) hK).trans h6, (hb.cell (p := ⟨Kb, 6, none⟩) hK).trans h7⟩
def NU (N U : Nat) (vk c4 c5 : Value) (w : World) : Prop := w.cell? ⟨N, 4, none⟩ = some vk ∧ w.cell? ⟨U, 4, none⟩ = some c4 ∧ w.cell? ⟨U, 5, none⟩ = some c5
theorem NU.below {N U : Nat} {vk c4 c5 : Value} {w w' : World} (h : NU N U vk c4 c5 w) {B : Nat} (hb : Below B w w') (hN : N < B) (hK : U < B) : NU N U vk c4 c5 w' := by
 obtain ⟨h0, h1, h2⟩ := h
 exact ⟨(hb.cell (p := ⟨N, 4, none⟩) hN).trans h0, (hb.cell (p := ⟨U, 4, none⟩) hK).trans h1, (hb.cell (p := ⟨U, 5, none⟩) hK).trans h2⟩
theorem gb {B : Nat} {a w w' : World} {g : Nat} (h : Below B a w) (hg : w.grownBy w' (some g)) (hz : B ≤ w.heap.size) (hr : B ≤ g) : Below B a w' := below_grown h hg hz (fun k e => by injection e with e; omega)
theorem heap_grown {w w' : World} {g b : Nat} {x : Obj} (hg : w.grownBy w' (some g)) (hne : b ≠ g) (h : w.heap[b]? = some x) : w'.heap[b]? = some x := by
 have hlt : b < w.heap.size := (Array.getElem?_eq_some_iff.1 h).1
 exact (hg.block b hlt (fun e => by injection e with e; omega)).trans h
end
section
open Go.RowKit
mutual
def NodeD.normB : NodeD → Bool
 | .mk _ _ _ _ kids _ _ => normK false kids
def normK : Bool → List NodeD → Bool
 | _, [] => true
 | pv, k :: r => !(decide (k.kind = 1) && (decide (k.tx.size = 0) || pv)) && (k.normB && normK (decide (k.kind = 1)) r)
end
theorem norm_eq (n : NodeD) : n.normB = normK false n.kids := by cases n; rw [NodeD.normB]; rfl
end
section
open Go.RowKit
def lastC : Bool → List NodeD → Bool
 | pv, [] => pv
 | _, k :: r => lastC (decide (k.kind = 1)) r
theorem lastC_snoc (k : NodeD) : ∀ (l : List NodeD) (pv : Bool), lastC pv (l ++ [k]) = decide (k.kind = 1)
 | [], _ => rfl
 | x :: r, _ => by rw [List.cons_append, lastC]; exact lastC_snoc k r _
theorem normK_snoc (k : NodeD) : ∀ (l : List NodeD) (pv : Bool), normK pv (l ++ [k]) = (normK pv l && (!(decide (k.kind = 1) && (decide (k.tx.size = 0) || lastC pv l)) && k.normB))
 | [], pv => by rw [List.nil_append, normK, normK, lastC, normK, Bool.and_true, Bool.true_and]
 | x :: r, pv => by
  rw [List.cons_append, normK, normK_snoc k r, normK, lastC]
  simp only [Bool.and_assoc]
theorem addKid_is' (k n : NodeD) : (addKid k n).kind = n.kind := by cases n; rfl
theorem depths_leU : ∀ (l : List NodeD) (d m : Nat), d ≤ m → (∀ k ∈ l, k.depth ≤ m) → depths l d ≤ m
 | [], _, _, h, _ => h
 | k :: r, d, m, h, hk => by
  rw [depths]
  exact depths_leU r _ m (Nat.max_le.2 ⟨h, hk k (List.mem_cons_self ..)⟩) (fun x hx => hk x (List.mem_cons_of_mem _ hx))
def FrOk (d : Nat) (f : NodeD) : Prop := f.kind = 0 ∧ normK false f.kids = true ∧ ∀ k ∈ f.kids, k.depth + d ≤ 100
def UpOk : List NodeD → Prop
 | [] => True
 | f :: r => FrOk r.length f ∧ UpOk r
def DocOk (up : List NodeD) (top : NodeD) : Prop := match up.getLast? with
 | none => ∀ k ∈ top.kids, k.kind = 0
 | some f => ∀ k ∈ f.kids, k.kind = 0
structure MOk (m : Mac) : Prop where
 top : FrOk m.up.length m.top
 last : lastC false m.top.kids = false
 up : UpOk m.up
 deep : m.up.length ≤ 100
 doc : DocOk m.up m.top
 data : m.up = [] → m.data = []
theorem MOk.start : MOk mac0 := ⟨⟨rfl, rfl, fun k h => by cases h⟩, rfl, trivial, Nat.zero_le _, fun k h => (by cases h), fun _ => rfl⟩
theorem MOk.flush {m : Mac} (h : MOk m) : FrOk (flushM m).up.length (flushM m).top ∧ UpOk (flushM m).up ∧ DocOk (flushM m).up (flushM m).top := by
 unfold flushM
 split
 ·exact ⟨h.top, h.up, h.doc⟩
 ·rename_i hd
  have hup : m.up ≠ [] := fun e => hd (h.data e)
  obtain ⟨h1, h2, h3⟩ := h.top
  refine ⟨⟨(addKid_is' _ _).trans h1, ?_, ?_⟩, h.up, ?_⟩
  ·show normK false (addKid _ _).kids = true
   rw [addKid_kids, normK_snoc, h2, h.last]
   have hz : (oB m.data).size ≠ 0 := by rw [oBz]; exact fun e => hd (List.length_eq_zero_iff.1 e)
   show (true && (!(decide ((charK m.data m.dat).kind = 1) && (decide ((oB m.data).size = 0) || false)) && (charK m.data m.dat).normB)) = true
   rw [decide_eq_false hz]
   rfl
  ·intro k hk
   rw [addKid_kids] at hk
   rcases List.mem_append.1 hk with x | x
   ·exact h3 k x
   ·rw [List.mem_singleton.1 x]
    have := h.deep
    show (charK m.data m.dat).depth + m.up.length ≤ 100
    have h0 : (charK m.data m.dat).depth = 0 := by unfold charK; rw [NodeD.depth]; rfl
    omega
  ·have := h.doc
   unfold DocOk at this ⊢
   simp only
   cases hl : m.up.getLast? with
   | none => exact absurd (List.getLast?_eq_none_iff.1 hl) hup
   | some f => rw [hl] at this; exact this
theorem DocOk.cons {f : NodeD} {r : List NodeD} {top top' : NodeD} (h : DocOk (f :: r) top) : DocOk (f :: r) top' := by
 unfold DocOk at *
 cases hl : (f :: r).getLast? with
 | none => exact absurd (List.getLast?_eq_none_iff.1 hl) (by simp)
 | some g => rw [hl] at h; exact h
theorem MOk.next {m : Mac} (h : MOk m) (t : TokD) : MOk (addM m t).1 := by
 obtain ⟨ht, hu, hd⟩ := h.flush
 have hfu := flushM_up m
 have hfd := flushM_data m
 unfold addM
 split
 ·unfold startM
  split
  ·exact h
  ·split
   ·exact h
   ·rename_i h1 h2
    rw [hfu] at ht hu hd
    split
    ·refine ⟨⟨(addKid_is' _ _).trans ht.1, ?_, ?_⟩, ?_, by show UpOk (flushM m).up; rw [hfu]; exact hu, by show (flushM m).up.length ≤ 100; rw [hfu]; exact h.deep, ?_, fun _ => hfd⟩
     ·show normK false (addKid _ _).kids = true
      rw [addKid_kids, normK_snoc, ht.2.1]
      rfl
     ·intro k hk
      show k.depth + (flushM m).up.length ≤ 100
      rw [hfu]
      rw [addKid_kids] at hk
      rcases List.mem_append.1 hk with x | x
      ·exact ht.2.2 k x
      ·rw [List.mem_singleton.1 x]
       have h0 : (elemN t []).depth = 1 := by unfold elemN; rw [NodeD.depth]; rfl
       omega
     ·show lastC false (addKid _ _).kids = false
      rw [addKid_kids, lastC_snoc]
      rfl
     ·show DocOk (flushM m).up (addKid _ _)
      rw [hfu]
      cases hm : m.up with
      | nil =>
       rw [hm] at hd
       intro k hk
       rw [addKid_kids] at hk
       rcases List.mem_append.1 hk with x | x
       ·exact hd k x
       ·rw [List.mem_singleton.1 x]; rfl
      | cons f r => rw [hm] at hd; exact hd.cons
    ·refine ⟨⟨rfl, rfl, fun k hk => by cases hk⟩, rfl, ?_, ?_, ?_, fun e => by cases e⟩
     ·show FrOk (flushM m).up.length (flushM m).top ∧ UpOk (flushM m).up
      rw [hfu]
      exact ⟨ht, hu⟩
     ·show ((flushM m).top :: (flushM m).up).length ≤ 100
      rw [List.length_cons, hfu]
      omega
     ·show DocOk ((flushM m).top :: (flushM m).up) _
      rw [hfu]
      cases hm : m.up with
      | nil =>
       rw [hm] at hd
       unfold DocOk
       exact hd
      | cons f r =>
       rw [hm] at hd
       unfold DocOk at hd ⊢
       rw [List.getLast?_cons_cons]
       cases hl : (f :: r).getLast? with
       | none => exact absurd (List.getLast?_eq_none_iff.1 hl) (by simp)
       | some g => rw [hl] at hd; exact hd
 ·split
  ·unfold endM
   split
   ·exact h
   ·split
    ·exact h
    ·rename_i h1 _
     show MOk (popM (flushM m))
     unfold popM
     cases hm : (flushM m).up with
     | nil => rw [hfu] at hm; exact absurd hm h1
     | cons f r =>
      rw [hm] at ht hu hd
      have hdp := h.deep
      rw [← hfu, hm] at hdp
      simp only [List.length_cons] at ht hdp
      have hk0 : (flushM m).top.depth + r.length ≤ 100 := by
       rw [depth_eq, ht.1, if_neg (by decide)]
       have := depths_leU (flushM m).top.kids 0 (100 - (r.length + 1)) (Nat.zero_le _) (fun k hk => by have := ht.2.2 k hk; omega)
       omega
      refine ⟨⟨(addKid_is' _ _).trans hu.1.1, ?_, ?_⟩, ?_, hu.2, by show r.length ≤ 100; omega, ?_, fun _ => hfd⟩
      ·show normK false (addKid _ _).kids = true
       rw [addKid_kids, normK_snoc, hu.1.2.1, norm_eq, ht.2.1, ht.1]
       rfl
      ·intro k hk
       rw [addKid_kids] at hk
       rcases List.mem_append.1 hk with x | x
       ·exact hu.1.2.2 k x
       ·rw [List.mem_singleton.1 x]; exact hk0
      ·show lastC false (addKid _ _).kids = false
       rw [addKid_kids, lastC_snoc, ht.1]
       rfl
      ·show DocOk r (addKid _ _)
       cases hr : r with
       | nil =>
        rw [hr] at hd
        intro k hk
        rw [addKid_kids] at hk
        rcases List.mem_append.1 hk with x | x
        ·exact hd k x
        ·rw [List.mem_singleton.1 x]; exact ht.1
       | cons g q =>
        rw [hr] at hd
        unfold DocOk at hd ⊢
        rw [List.getLast?_cons_cons] at hd
        cases hl : (g :: q).getLast? with
        | none => exact absurd (List.getLast?_eq_none_iff.1 hl) (by simp)
        | some y => rw [hl] at hd; exact hd
  ·unfold textM
   split
   ·split <;> exact h
   ·rename_i h1
    exact ⟨h.top, h.last, h.up, h.deep, h.doc, fun e => absurd e h1⟩
theorem MOk.run : ∀ (l : List TokD) (m : Mac), MOk m → MOk (runM m l).1
 | [], _, h => h
 | t :: r, m, h => by
  rw [runM]
  split
  ·exact h.next t
  ·exact MOk.run r _ (h.next t)
theorem parse_normal (s : ByteArray) (h : (parseP s).2.2 = 0) : (parseP s).1.kind = 0 ∧ (parseP s).1.depth ≤ 100 ∧ (parseP s).1.normB = true ∧ (parseP s).2.1 = (s.size : Int) := by
 unfold parseP at h ⊢
 split
 ·rename_i h1
  rw [if_pos h1] at h
  exact absurd h h1
 ·rename_i h1
  rw [if_neg h1] at h
  split
  ·rename_i h2
   rw [if_pos h2] at h
   exact absurd h h2
  ·rename_i h2
   rw [if_neg h2] at h
   have hm := MOk.run (toksP s).1 mac0 MOk.start
   generalize (runM mac0 (toksP s).1).1 = m at *
   cases hu : m.up with
   | nil =>
    cases hk : m.top.kids with
    | nil => rw [hu, hk] at h; exact absurd (show (8 : Int) = 0 from h) (by decide)
    | cons k r =>
     have hd := hm.doc
     have ht := hm.top
     rw [hu] at hd ht
     obtain ⟨h3, h4, h5⟩ := ht
     rw [hk] at h4 h5
     have h6 := hd k (by rw [hk]; simp)
     rw [normK, h6] at h4
     refine ⟨h6, by have := h5 k (by simp); simpa using this, ?_, rfl⟩
     simp at h4
     exact h4.1
   | cons f r => rw [hu] at h; exact absurd (show (8 : Int) = 0 from h) (by decide)
end
section
open Go.RowKit
def kidsR (K : List NodeD) (D : List UInt8) (dt : Int) : List NodeD := if D = [] then K else K ++ [charK D dt]
theorem kidsR_nil (K : List NodeD) (dt : Int) : kidsR K [] dt = K := if_pos rfl
theorem lastC_kind {K : List NodeD} {k : NodeD} (h : lastC false (K ++ [k]) = false) : ¬ k.kind = 1 := by
 rw [lastC_snoc] at h
 simpa using h
theorem addChar_kidsR (K : List NodeD) (D : List UInt8) (dt : Int) (u : TokD) (hu : u.tx ≠ []) (hK : lastC false K = false) : addChar (kidsR K D dt) u = kidsR K (D ++ u.tx) (if D = [] then u.at' else dt) := by
 have hne : D ++ u.tx ≠ [] := fun e => hu (List.append_eq_nil_iff.1 e).2
 unfold kidsR
 rw [if_neg hne]
 by_cases hD : D = []
 ·rw [if_pos hD, if_pos hD, hD, List.nil_append]
  unfold addChar
  rcases List.eq_nil_or_concat K with rfl | ⟨L, k, hLk⟩
  ·rfl
  ·rw [List.concat_eq_append] at hLk
   subst hLk
   rw [List.getLast?_concat]
   simp only
   rw [if_neg (lastC_kind hK)]
   rfl
 ·rw [if_neg hD, if_neg hD]
  unfold addChar
  rw [List.getLast?_concat]
  simp only
  rw [if_pos (show (charK D dt).kind = 1 from rfl), List.dropLast_concat]
  unfold charK
  rw [moreN, ← oBa]
def Fits (z : Int) (r : NodeD × Nat × Int × Int) (R : Mac × Int × Int) : Prop := (r.2.2.2 = R.2.2 ∧ r.2.2.1 = R.2.1) ∨ (r.2.2.2 = 8 ∧ r.2.2.1 = z ∧ R.2.2 = 0 ∧ R.1.up ≠ [])
def Agree (l : List TokD) (z : Int) (m : Mac) (top : NodeD) (up : List NodeD) (r : NodeD × Nat × Int × Int) (i : Nat) : Prop := (r.2.2.2 = 0 → i < r.2.1 ∧ r.2.1 ≤ l.length ∧ r.1.kind = 0 ∧ ∃ dt, runM m (l.drop i) = runM ⟨addKid r.1 top, up, [], dt⟩ (l.drop r.2.1)) ∧ (r.2.2.2 ≠ 0 → Fits z r (runM m (l.drop i)))
theorem ofBytes_ne {a b : List UInt8} (h : a ≠ b) : oB a ≠ oB b := fun e => h (by rw [← oBl a, e, oBl])
theorem addKid_elem (t : TokD) (K : List NodeD) (k : NodeD) : addKid k (elemN t K) = elemN t (K ++ [k]) := rfl
theorem run_cons (m : Mac) (l : List TokD) (i : Nat) (u : TokD) (h : l[i]? = some u) : i < l.length ∧ runM m (l.drop i) = if (addM m u).2 ≠ 0 then ((addM m u).1, u.at', (addM m u).2) else runM (addM m u).1 (l.drop (i + 1)) := by
 obtain ⟨hi, hu⟩ := List.getElem?_eq_some_iff.1 h
 refine ⟨hi, ?_⟩
 rw [List.drop_eq_getElem_cons hi, hu, runM]
theorem agree (l : List TokD) (z : Int) (hl : ∀ u ∈ l, u.kind = 3 → u.tx ≠ []) (hk : ∀ u ∈ l, u.kind = 1 ∨ u.kind = 2 ∨ u.kind = 3) : ∀ F : Nat,
  (∀ (m : Mac) (i : Nat) (t : TokD), l[i]? = some t → t.kind = 1 → 2 * (l.length - i) ≤ F → (m.up ≠ [] ∨ m.top.kids = []) → Agree l z m (flushM m).top m.up (elP l z F (m.up.length + 1) i) i) ∧
  (∀ (m : Mac) (i : Nat) (t : TokD) (K : List NodeD) (f : NodeD) (rr : List NodeD), m.up = f :: rr → m.top = elemN t K → lastC false K = false → 2 * (l.length - i) + 1 ≤ F → i ≤ l.length → Agree l z m f rr (kidsP l z F m.up.length t i (kidsR K m.data m.dat)) i)
 | 0 => ⟨fun m i t ht _ hF _ => absurd hF (by have := (run_cons m l i t ht).1; omega), fun m i t K f rr _ _ _ hF _ => absurd hF (by omega)⟩
 | F + 1 => by
  obtain ⟨IH1, IH2⟩ := agree l z hl hk F
  refine ⟨fun m i t ht hk1 hF hroom => ?_, fun m i t K f rr hup htop hK hF hi => ?_⟩
  ·obtain ⟨hi, hrun⟩ := run_cons m l i t ht
   have hadd : addM m t = startM m t := if_pos hk1
   have hnr : ¬ (m.up = [] ∧ m.top.kids ≠ []) := fun e => hroom.elim (fun h => h e.1) (fun h => e.2 h)
   rw [elP, ht]
   simp only
   by_cases hd : m.up.length + 1 > 100
   ·rw [if_pos hd]
    have ha : addM m t = (m, 9) := by rw [hadd, startM, if_neg hnr, if_pos (by omega)]
    rw [ha, if_pos (show (9 : Int) ≠ 0 by decide)] at hrun
    exact ⟨fun e => absurd (show (9 : Int) = 0 from e) (by decide), fun _ => by rw [hrun]; exact .inl ⟨rfl, rfl⟩⟩
   ·rw [if_neg hd]
    cases hem : t.em with
    | true =>
     have ha : addM m t = ({ flushM m with top := addKid (elemN t []) (flushM m).top }, 0) := by rw [hadd, startM, if_neg hnr, if_neg (by omega), if_pos hem]
     rw [ha, if_neg (fun h => h rfl)] at hrun
     refine ⟨fun _ => ⟨by show i < i + 1; omega, by show i + 1 ≤ _; omega, rfl, (flushM m).dat, ?_⟩, fun e => absurd (show (0 : Int) = 0 from rfl) e⟩
     rw [hrun]
     show runM ⟨addKid (elemN t []) (flushM m).top, (flushM m).up, (flushM m).data, (flushM m).dat⟩ _ = _
     rw [flushM_up, flushM_data]
     rfl
    | false =>
     have ha : addM m t = ({ flushM m with top := elemN t [], up := (flushM m).top :: (flushM m).up }, 0) := by rw [hadd, startM, if_neg hnr, if_neg (by omega), if_neg (by rw [hem]; decide)]
     rw [ha, if_neg (fun h => h rfl)] at hrun
     have h2 := IH2 ⟨elemN t [], (flushM m).top :: (flushM m).up, (flushM m).data, (flushM m).dat⟩ (i + 1) t [] (flushM m).top (flushM m).up rfl rfl rfl (by omega) (by omega)
     rw [show (⟨elemN t [], (flushM m).top :: (flushM m).up, (flushM m).data, (flushM m).dat⟩ : Mac).up.length = m.up.length + 1 by show ((flushM m).top :: (flushM m).up).length = _; rw [List.length_cons, flushM_up]] at h2
     simp only at h2
     rw [flushM_data, kidsR_nil] at h2
     simp only [Bool.false_eq_true, if_false]
     obtain ⟨h3, h4⟩ := h2
     refine ⟨fun e => ?_, fun e => ?_⟩
     ·obtain ⟨a, b, c, dt, d⟩ := h3 e
      refine ⟨by omega, b, c, dt, ?_⟩
      rw [hrun]
      rw [flushM_up] at d
      rw [show (({ flushM m with top := elemN t [], up := (flushM m).top :: (flushM m).up }, 0) : Mac × Int).1 = ⟨elemN t [], (flushM m).top :: m.up, [], (flushM m).dat⟩ by show (⟨elemN t [], (flushM m).top :: (flushM m).up, (flushM m).data, (flushM m).dat⟩ : Mac) = _; rw [flushM_up, flushM_data]]
      exact d
     ·have := h4 e
      rw [hrun]
      rw [flushM_up] at this
      rw [show (({ flushM m with top := elemN t [], up := (flushM m).top :: (flushM m).up }, 0) : Mac × Int).1 = ⟨elemN t [], (flushM m).top :: m.up, [], (flushM m).dat⟩ by show (⟨elemN t [], (flushM m).top :: (flushM m).up, (flushM m).data, (flushM m).dat⟩ : Mac) = _; rw [flushM_up, flushM_data]]
      exact this
  ·rw [kidsP]
   have hne : m.up ≠ [] := by rw [hup]; simp
   cases hu : l[i]? with
   | none =>
    simp only
    have hge : l.length ≤ i := List.getElem?_eq_none_iff.1 hu
    refine ⟨fun e => absurd (show (8 : Int) = 0 from e) (by decide), fun _ => ?_⟩
    rw [List.drop_eq_nil_of_le hge, runM]
    exact .inr ⟨rfl, rfl, rfl, hne⟩
   | some u =>
    simp only
    obtain ⟨hi, hrun⟩ := run_cons m l i u hu
    have hmem : u ∈ l := List.mem_of_getElem? hu
    by_cases h2 : u.kind = 2
    ·rw [if_pos h2]
     have hadd : addM m u = endM m u := by unfold addM; rw [if_neg (by rw [h2]; decide), if_pos h2]
     by_cases hnm : u.nm ≠ t.nm
     ·rw [if_pos hnm]
      have ha : addM m u = (m, 14) := by
       rw [hadd, endM, if_neg hne, if_pos]
       rw [htop]
       exact (ofBytes_ne hnm).symm
      rw [ha, if_pos (show (14 : Int) ≠ 0 by decide)] at hrun
      exact ⟨fun e => absurd (show (14 : Int) = 0 from e) (by decide), fun _ => by rw [hrun]; exact .inl ⟨rfl, rfl⟩⟩
     ·rw [if_neg hnm]
      have hnm' : u.nm = t.nm := Classical.byContradiction hnm
      have ha : addM m u = (popM (flushM m), 0) := by
       rw [hadd, endM, if_neg hne, if_neg]
       rw [htop, hnm']
       exact fun h => h rfl
      rw [ha, if_neg (fun h => h rfl)] at hrun
      refine ⟨fun _ => ⟨by show i < i + 1; omega, by show i + 1 ≤ _; omega, rfl, (flushM m).dat, ?_⟩, fun e => absurd (show (0 : Int) = 0 from rfl) e⟩
      rw [hrun]
      have hp : popM (flushM m) = ⟨addKid (flushM m).top f, rr, [], (flushM m).dat⟩ := by
       unfold popM
       rw [flushM_up, hup]
       show (⟨addKid (flushM m).top f, rr, (flushM m).data, (flushM m).dat⟩ : Mac) = _
       rw [flushM_data]
      have ht : (flushM m).top = elemN t (kidsR K m.data m.dat) := by
       unfold flushM kidsR
       split
       ·exact htop
       ·show addKid _ m.top = _
        rw [htop]
        rfl
      show runM (popM (flushM m)) _ = _
      rw [hp, ht]
    ·rw [if_neg h2]
     by_cases h1 : u.kind = 1
     ·rw [if_pos h1]
      have hA := IH1 m i u hu h1 (by omega) (.inl hne)
      generalize elP l z F (m.up.length + 1) i = r1 at *
      obtain ⟨n1, j, a1, e1⟩ := r1
      simp only
      by_cases he : e1 = 0
      ·subst he
       obtain ⟨ha, hb, hc, dt, hd⟩ := hA.1 rfl
       rw [if_neg (by decide)]
       have ht : (flushM m).top = elemN t (kidsR K m.data m.dat) := by
        unfold flushM kidsR
        split
        ·exact htop
        ·show addKid _ m.top = _
         rw [htop]
         rfl
       simp only at ha hb hc hd
       rw [ht, addKid_elem] at hd
       have hB := IH2 ⟨elemN t (kidsR K m.data m.dat ++ [n1]), m.up, [], dt⟩ j t (kidsR K m.data m.dat ++ [n1]) f rr hup rfl (by rw [lastC_snoc, hc]; rfl) (by omega) hb
       simp only at hB
       rw [kidsR_nil] at hB
       refine ⟨fun e => ?_, fun e => ?_⟩
       ·obtain ⟨a, b, c, dt2, d⟩ := hB.1 e
        exact ⟨by omega, b, c, dt2, hd.trans d⟩
       ·have := hB.2 e
        rw [hd]
        exact this
      ·rw [if_pos he]
       exact ⟨fun e => absurd e he, hA.2⟩
     ·rw [if_neg h1]
      have h3 : u.kind = 3 := by
       rcases hk u hmem with h | h | h
       ·exact absurd h h1
       ·exact absurd h h2
       ·exact h
      have ha : addM m u = (⟨m.top, m.up, m.data ++ u.tx, if m.data = [] then u.at' else m.dat⟩, 0) := by
       unfold addM
       rw [if_neg h1, if_neg h2, textM, if_neg hne]
      rw [ha, if_neg (fun h => h rfl)] at hrun
      have hB := IH2 ⟨m.top, m.up, m.data ++ u.tx, if m.data = [] then u.at' else m.dat⟩ (i + 1) t K f rr hup htop hK (by omega) (by omega)
      simp only at hB
      rw [← addChar_kidsR K m.data m.dat u (hl u hmem h3) hK] at hB
      refine ⟨fun e => ?_, fun e => ?_⟩
      ·obtain ⟨a, b, c, dt2, d⟩ := hB.1 e
       exact ⟨by omega, b, c, dt2, hrun.trans d⟩
      ·have := hB.2 e
       rw [hrun]
       exact this
theorem colGo_blank : ∀ (l : List UInt8) (pv : Bool), colGo false pv l = [] ↔ blankB l = true
 | [], _ => by rw [colGo]; exact ⟨fun _ => rfl, fun _ => rfl⟩
 | c :: r, pv => by
  rw [colGo]
  show _ ↔ (spB c && blankB r) = true
  have hs : sp c = spB c := rfl
  rw [hs]
  cases h : spB c with
  | true => rw [if_pos rfl, Bool.true_and]; exact colGo_blank r true
  | false =>
   rw [if_neg (by decide), if_neg (by simp), Bool.false_and]
   exact ⟨fun e => by simp at e, fun e => by cases e⟩
def topP (l : List TokD) (z : Int) : Nat → Nat → Option NodeD → NodeD × Int × Int
 | 0, _, _ => (zeroN, 0, 0)
 | f + 1, i, root => match l[i]? with
  | none => (match root with | none => (zeroN, z, 8) | some n => (n, z, 0))
  | some t => if t.kind = 1 ∧ root.isSome = true then (zeroN, t.at', 17)
   else if t.kind = 2 then (zeroN, t.at', 14)
   else if t.kind = 3 then (if blankB t.tx then topP l z f (i + 1) root else (zeroN, t.at', 7))
   else (if (elP l z (2 * l.length + 1) 1 i).2.2.2 ≠ 0 then (zeroN, (elP l z (2 * l.length + 1) 1 i).2.2.1, (elP l z (2 * l.length + 1) 1 i).2.2.2) else topP l z f (elP l z (2 * l.length + 1) 1 i).2.1 (some (elP l z (2 * l.length + 1) 1 i).1))
def finish (z : Int) (R : Mac × Int × Int) : NodeD × Int × Int :=
 if R.2.2 ≠ 0 then (zeroN, R.2.1, R.2.2) else match R.1.up, R.1.top.kids with
  | [], k :: _ => (k, z, 0)
  | _, _ => (zeroN, z, 8)
theorem topP_eq (l : List TokD) (z : Int) (hl : ∀ u ∈ l, u.kind = 3 → u.tx ≠ []) (hk : ∀ u ∈ l, u.kind = 1 ∨ u.kind = 2 ∨ u.kind = 3) : ∀ (f i : Nat) (root : Option NodeD) (m : Mac), m.up = [] → m.data = [] → m.top.kids = root.toList → l.length - i < f → i ≤ l.length → topP l z f i root = finish z (runM m (l.drop i))
 | 0, i, root, m, _, _, _, hf, _ => absurd hf (by omega)
 | f + 1, i, root, m, hup, hda, hkids, hf, hi => by
  unfold topP
  cases hu : l[i]? with
  | none =>
   simp only
   have hge : l.length ≤ i := List.getElem?_eq_none_iff.1 hu
   rw [List.drop_eq_nil_of_le hge, runM]
   unfold finish
   rw [if_neg (fun h => h rfl), hup, hkids]
   cases root <;> rfl
  | some t =>
   simp only
   obtain ⟨hlt, hrun⟩ := run_cons m l i t hu
   have hmem : t ∈ l := List.mem_of_getElem? hu
   by_cases h17 : t.kind = 1 ∧ root.isSome = true
   ·rw [if_pos h17]
    have ha : addM m t = (m, 17) := by
     unfold addM
     rw [if_pos h17.1, startM, if_pos]
     refine ⟨hup, ?_⟩
     rw [hkids]
     cases root with
     | none => exact absurd h17.2 (by decide)
     | some n => simp
    rw [ha, if_pos (show (17 : Int) ≠ 0 by decide)] at hrun
    rw [hrun]
    rfl
   ·rw [if_neg h17]
    by_cases h2 : t.kind = 2
    ·rw [if_pos h2]
     have ha : addM m t = (m, 14) := by
      unfold addM
      rw [if_neg (by rw [h2]; decide), if_pos h2, endM, if_pos hup]
     rw [ha, if_pos (show (14 : Int) ≠ 0 by decide)] at hrun
     rw [hrun]
     rfl
    ·rw [if_neg h2]
     by_cases h3 : t.kind = 3
     ·rw [if_pos h3]
      have hadd : addM m t = if collapse t.tx = [] then (m, 0) else (m, 7) := by
       unfold addM
       rw [if_neg (by rw [h3]; decide), if_neg h2, textM, if_pos hup]
      by_cases hb : blankB t.tx = true
      ·rw [if_pos hb]
       rw [hadd, if_pos (show collapse t.tx = [] from (colGo_blank t.tx false).2 hb), if_neg (fun h => h rfl)] at hrun
       rw [hrun]
       exact topP_eq l z hl hk f (i + 1) root m hup hda hkids (by omega) (by omega)
      ·rw [if_neg hb]
       rw [hadd, if_neg (show ¬ collapse t.tx = [] from fun e => hb ((colGo_blank t.tx false).1 e)), if_pos (show (7 : Int) ≠ 0 by decide)] at hrun
       rw [hrun]
       rfl
     ·rw [if_neg h3]
      have h1 : t.kind = 1 := by
       rcases hk t hmem with h | h | h
       ·exact h
       ·exact absurd h h2
       ·exact absurd h h3
      have hroot : root = none := by
       cases root with
       | none => rfl
       | some n => exact absurd ⟨h1, rfl⟩ h17
      have hA := (agree l z hl hk (2 * l.length + 1)).1 m i t hu h1 (by omega) (.inr (by rw [hkids, hroot]; rfl))
      rw [hup] at hA
      simp only [List.length_nil, Nat.zero_add] at hA
      have hft : (flushM m).top = m.top := by unfold flushM; rw [if_pos hda]
      rw [hft] at hA
      generalize elP l z (2 * l.length + 1) 1 i = r1 at *
      obtain ⟨n1, j, a1, e1⟩ := r1
      simp only
      by_cases he : e1 = 0
      ·subst he
       obtain ⟨ha, hb, hc, dt, hd⟩ := hA.1 rfl
       rw [if_neg (by decide)]
       simp only at ha hb hc hd
       rw [hd]
       exact topP_eq l z hl hk f j (some n1) ⟨addKid n1 m.top, [], [], dt⟩ rfl rfl (by show (addKid _ _).kids = _; rw [addKid_kids, hkids, hroot]; rfl) (by omega) hb
      ·rw [if_pos he]
       have hF := hA.2 he
       unfold finish
       rcases hF with ⟨h4, h5⟩ | ⟨h4, h5, h6, h7⟩
       ·simp only at h4 h5
        rw [← h4, ← h5, if_pos he]
       ·simp only at h4 h5
        rw [h6, if_neg (by decide), h4, h5]
        cases hq : (runM m (l.drop i)).1.up with
        | nil => exact absurd hq h7
        | cons a b => rfl
theorem parse_top (s : ByteArray) (h : (toksP s).2.2 = 0) : topP (toksP s).1 (s.size : Int) ((toksP s).1.length + 1) 0 none = parseP s := by
 have hT := toksP_tx s
 rw [topP_eq (toksP s).1 (s.size : Int) (fun u hu => (hT u hu).2.2) (fun u hu => (hT u hu).2.1) _ 0 none mac0 rfl rfl rfl (by omega) (Nat.zero_le _), List.drop_zero]
 have e : parseP s = if (toksP s).2.2 ≠ 0 then (zeroN, (toksP s).2.1, (toksP s).2.2) else finish (s.size : Int) (runM mac0 (toksP s).1) := rfl
 rw [e, if_neg (fun q => q h)]
end
end Go.Proofs.YtppmoeidgefkpaaGreatDoor
