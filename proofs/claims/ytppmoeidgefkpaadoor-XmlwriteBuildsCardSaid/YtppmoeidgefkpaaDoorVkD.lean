/- Packed from the texts TreA TreB TreD TreJ Hol TreH TreI BuiA BuiB BuiC TreW BuiD TreX TreK TreU TreM TreO TreP TreV. -/
import Derived.Test.YtppmoeidgefkpaaDoorVBldr
import Derived.Test.YtppmoeidgefkpaaDoorVLate
import Derived.Test.YtppmoeidgefkpaaDoorVTextE
import Derived.Test.YtppmoeidgefkpaaDoorVkB
import Derived.Test.YtppmoeidgefkpaaDoorVkC
import Derived.Deep.QuietTactic
import Derived.BigQuiet
import Derived.WalkSmall
import Derived.BigGuard
import Derived.Deep.RegionHeld3
import Derived.Deep.Cut
import Derived.Lib.FrozenHead2
import Derived.Deep.AppendLies
import Derived.Deep.RegionLaw
section
namespace Go.Proofs.YtppmoeidgefkpaaDoor
open Go.RowKit
inductive NodeD where
  | mk (kind : Int) (sp nm : ByteArray) (al : List AttrD) (kids : List NodeD) (tx : ByteArray) (at' : Int)
def NodeD.kind : NodeD → Int | .mk k _ _ _ _ _ _ => k
def NodeD.sp : NodeD → ByteArray | .mk _ s _ _ _ _ _ => s
def NodeD.nm : NodeD → ByteArray | .mk _ _ n _ _ _ _ => n
def NodeD.al : NodeD → List AttrD | .mk _ _ _ a _ _ _ => a
def NodeD.kids : NodeD → List NodeD | .mk _ _ _ _ k _ _ => k
def NodeD.tx : NodeD → ByteArray | .mk _ _ _ _ _ t _ => t
def NodeD.at' : NodeD → Int | .mk _ _ _ _ _ _ a => a
mutual
def NodeD.cnt : NodeD → Nat
  | .mk _ _ _ _ kids _ _ => 1 + cnts kids
def cnts : List NodeD → Nat
  | [] => 0
  | k :: r => k.cnt + cnts r
end
theorem cnts_mem : ∀ (l : List NodeD) (k : NodeD), k ∈ l → k.cnt ≤ cnts l
  | [], _, h => by cases h
  | x :: r, k, h => by
    rw [cnts]
    rcases List.mem_cons.1 h with rfl | h
    · omega
    · have := cnts_mem r k h
      omega
theorem cnt_eq (n : NodeD) : n.cnt = 1 + cnts n.kids := by
  cases n; rw [NodeD.cnt]; rfl
theorem cnt_kid (n k : NodeD) (h : k ∈ n.kids) : k.cnt < n.cnt := by
  have := cnts_mem _ k h
  rw [cnt_eq n]
  omega
mutual
def NodeIs (w : World) : NodeD → Value → Prop
  | .mk kind sp nm al kids tx at', v => ∃ pa ca pk ck, v = .agg #[.int .i64 kind, .string sp, .string nm, .slice pa al.length ca, .slice pk kids.length ck, .string tx, .int .i64 at'] ∧ AttrsAt w pa al ∧ KidsAt w pk 0 kids
def KidsAt (w : World) (p : Option Addr) (i : Nat) : List NodeD → Prop
  | [] => True
  | k :: r => (∃ a v0 v1 v2 v3 v4 v5 v6, p = some a ∧ (w.cell? (a.add (i * 7)) = some v0 ∧ w.cell? ((a.add (i * 7)).add 1) = some v1 ∧ w.cell? ((a.add (i * 7)).add 2) = some v2 ∧ w.cell? ((a.add (i * 7)).add 3) = some v3 ∧ w.cell? ((a.add (i * 7)).add 4) = some v4 ∧ w.cell? ((a.add (i * 7)).add 5) = some v5 ∧ w.cell? ((a.add (i * 7)).add 6) = some v6) ∧ NodeIs w k (.agg #[v0, v1, v2, v3, v4, v5, v6])) ∧ KidsAt w p (i + 1) r
end
theorem node_is (w : World) (n : NodeD) (v : Value) : NodeIs w n v ↔ ∃ pa ca pk ck, v = .agg #[.int .i64 n.kind, .string n.sp, .string n.nm, .slice pa n.al.length ca, .slice pk n.kids.length ck, .string n.tx, .int .i64 n.at'] ∧ AttrsAt w pa n.al ∧ KidsAt w pk 0 n.kids := by
  cases n; rw [NodeIs]; exact Iff.rfl
mutual
theorem NodeIs.below {w w' : World} (hb : Below w.heap.size w w') : ∀ (n : NodeD) (v : Value), NodeIs w n v → NodeIs w' n v
  | .mk kind sp nm al kids tx at', v, h => by
    rw [NodeIs] at h ⊢
    obtain ⟨pa, ca, pk, ck, rfl, ha, hk⟩ := h
    exact ⟨pa, ca, pk, ck, rfl, ha.below hb, KidsAt.below hb kids pk 0 hk⟩
theorem KidsAt.below {w w' : World} (hb : Below w.heap.size w w') : ∀ (l : List NodeD) (p : Option Addr) (i : Nat), KidsAt w p i l → KidsAt w' p i l
  | [], p, i, _ => by rw [KidsAt]; trivial
  | k :: r, p, i, h => by
    rw [KidsAt] at h ⊢
    obtain ⟨⟨a, v0, v1, v2, v3, v4, v5, v6, hp, ⟨h0, h1, h2, h3, h4, h5, h6⟩, hn⟩, hr⟩ := h
    exact ⟨⟨a, v0, v1, v2, v3, v4, v5, v6, hp, ⟨(hb.cell (kblock_lt h0)).trans h0, (hb.cell (kblock_lt h1)).trans h1, (hb.cell (kblock_lt h2)).trans h2, (hb.cell (kblock_lt h3)).trans h3, (hb.cell (kblock_lt h4)).trans h4, (hb.cell (kblock_lt h5)).trans h5, (hb.cell (kblock_lt h6)).trans h6⟩, NodeIs.below hb k _ hn⟩, KidsAt.below hb r p (i + 1) hr⟩
end
theorem KidsAt.get {w : World} {p : Option Addr} : ∀ (l : List NodeD) (j : Nat), KidsAt w p j l → ∀ i (h : i < l.length), ∃ a v0 v1 v2 v3 v4 v5 v6, p = some a ∧ (w.cell? (a.add ((j + i) * 7)) = some v0 ∧ w.cell? ((a.add ((j + i) * 7)).add 1) = some v1 ∧ w.cell? ((a.add ((j + i) * 7)).add 2) = some v2 ∧ w.cell? ((a.add ((j + i) * 7)).add 3) = some v3 ∧ w.cell? ((a.add ((j + i) * 7)).add 4) = some v4 ∧ w.cell? ((a.add ((j + i) * 7)).add 5) = some v5 ∧ w.cell? ((a.add ((j + i) * 7)).add 6) = some v6) ∧ NodeIs w l[i] (.agg #[v0, v1, v2, v3, v4, v5, v6])
  | [], _, _, i, h => absurd h (Nat.not_lt_zero _)
  | k :: r, j, hk, 0, _ => by
    rw [KidsAt] at hk
    exact hk.1
  | k :: r, j, hk, i + 1, h => by
    rw [KidsAt] at hk
    have := KidsAt.get r (j + 1) hk.2 i (by simpa using h)
    rw [show j + 1 + i = j + (i + 1) by omega] at this
    exact this
mutual
def NodeD.depth : NodeD → Nat
  | .mk kind _ _ _ kids _ _ => if kind = 1 then 0 else depths kids 0 + 1
def depths : List NodeD → Nat → Nat
  | [], m => m
  | k :: r, m => depths r (max m k.depth)
end
def attrEqB (off : Bool) (x y : AttrD) : Bool := decide (x.sp = y.sp ∧ x.nm = y.nm ∧ x.va = y.va ∧ (off = true → x.at' = y.at'))
def allEq (off : Bool) : List AttrD → List AttrD → Bool
  | [], _ => true
  | _ :: _, [] => true
  | x :: r, y :: q => attrEqB off x y && allEq off r q
def headEq (off : Bool) (n m : NodeD) : Bool := decide (n.kind = m.kind ∧ n.sp = m.sp ∧ n.nm = m.nm ∧ n.tx = m.tx ∧ (off = true → n.at' = m.at') ∧ n.al.length = m.al.length ∧ n.kids.length = m.kids.length)
mutual
def NodeD.eqB (off : Bool) : NodeD → NodeD → Bool
  | .mk k s n al kids tx a, m => headEq off (.mk k s n al kids tx a) m && (allEq off al m.al && eqsB off kids m.kids)
def eqsB (off : Bool) : List NodeD → List NodeD → Bool
  | [], _ => true
  | _ :: _, [] => true
  | k :: r, m :: q => k.eqB off m && eqsB off r q
end
theorem eq_eq (off : Bool) (n m : NodeD) : n.eqB off m = (headEq off n m && (allEq off n.al m.al && eqsB off n.kids m.kids)) := by cases n; rw [NodeD.eqB]; rfl
end Go.Proofs.YtppmoeidgefkpaaDoor
end
section
namespace Go.Proofs.YtppmoeidgefkpaaDoor
open Go.RowKit
theorem depth_eq (n : NodeD) : n.depth = if n.kind = 1 then 0 else depths n.kids 0 + 1 := by cases n; rw [NodeD.depth]; rfl
theorem trI {a b : Int} (h : a = b) : Ending.returned (.int .i64 a) = .returned (.int .i64 b) := by rw [h]
end Go.Proofs.YtppmoeidgefkpaaDoor
end
section
namespace Go.Proofs.YtppmoeidgefkpaaDoor
open Go.RowKit
mutual
def NodeD.wt : NodeD → Nat
  | .mk _ _ _ al kids _ _ => 1 + al.length + wts kids
def wts : List NodeD → Nat
  | [] => 0
  | k :: r => k.wt + wts r
end
theorem wts_mem : ∀ (l : List NodeD) (k : NodeD), k ∈ l → k.wt ≤ wts l
  | [], _, h => by cases h
  | x :: r, k, h => by
    rw [wts]
    rcases List.mem_cons.1 h with rfl | h
    · omega
    · have := wts_mem r k h
      omega
theorem wt_eq (n : NodeD) : n.wt = 1 + n.al.length + wts n.kids := by cases n; rw [NodeD.wt]; rfl
theorem wts_len : ∀ l : List NodeD, l.length ≤ wts l
  | [] => Nat.le_refl _
  | k :: r => by
    rw [wts, List.length_cons]
    have h1 := wt_eq k
    have h2 := wts_len r
    omega
theorem wt_kid (n k : NodeD) (h : k ∈ n.kids) : k.wt < n.wt := by
  have := wts_mem _ k h
  rw [wt_eq n]
  omega
theorem allEq_drop (off : Bool) (l m : List AttrD) (i : Nat) (h : i < l.length) (h' : i < m.length) : allEq off (l.drop i) (m.drop i) = (attrEqB off l[i] m[i] && allEq off (l.drop (i + 1)) (m.drop (i + 1))) := by
  rw [List.drop_eq_getElem_cons h, List.drop_eq_getElem_cons h', allEq]
theorem eqsB_drop (off : Bool) (l m : List NodeD) (i : Nat) (h : i < l.length) (h' : i < m.length) : eqsB off (l.drop i) (m.drop i) = (l[i].eqB off m[i] && eqsB off (l.drop (i + 1)) (m.drop (i + 1))) := by
  rw [List.drop_eq_getElem_cons h, List.drop_eq_getElem_cons h', eqsB]
theorem trB {a b : Bool} (h : a = b) : Ending.returned (.bool a) = .returned (.bool b) := by rw [h]
theorem str_ne3 {a b : ByteArray} (h : a ≠ b) : ¬ a.toList = b.toList := by
  intro e
  apply h
  rw [ByteArray.toList_eq, ByteArray.toList_eq] at e
  cases a; cases b; simp at e; simp [e]
theorem str_ne2 {a b : ByteArray} (h : a ≠ b) : (a.toList == b.toList) = false := beq_eq_false_iff_ne.2 (str_ne3 h)
theorem str_ne {a b : ByteArray} (h : a ≠ b) : (a.toList != b.toList) = true := by
  rw [bne_iff_ne]
  intro e
  apply h
  rw [ByteArray.toList_eq, ByteArray.toList_eq] at e
  cases a; cases b; simp at e; simp [e]
def EqC (off : Bool) (f : Nat) : Prop := ∀ (n m : NodeD) (v u : Value) (w : World), n.wt ≤ f → n.wt ≤ 100000000 → NodeIs w n v → NodeIs w m u → Calls Tryd.prog 14 #[v, u, .bool off] w fun e w' => e = .returned (.bool (n.eqB off m)) ∧ Below w.heap.size w w'
def EqM (off : Bool) (f : Nat) : Prop := ∀ (O : Bool) (_ : O = off) (w : World) (k1 : Int) (s1 n1 t1 : ByteArray) (a1 a2 : Int) (al bl : List AttrD) (kids lids : List NodeD) (pa pk qa qk : Option Addr) (ca ck da dk : Nat) (R : Bool), R = (allEq O al bl && eqsB O kids lids) → (off = true → (a1 != a2) = false) → al.length = bl.length → kids.length = lids.length → (∀ k ∈ kids, k.wt ≤ f ∧ k.wt ≤ 100000000) → (kids.length : Int) ≤ 100000000 → (al.length : Int) ≤ 100000000 → AttrsAt w pa al → KidsAt w pk 0 kids → AttrsAt w qa bl → KidsAt w qk 0 lids →
    Calls Tryd.prog 14 #[.agg #[.int .i64 k1, .string s1, .string n1, .slice pa al.length ca, .slice pk kids.length ck, .string t1, .int .i64 a1], .agg #[.int .i64 k1, .string s1, .string n1, .slice qa al.length da, .slice qk kids.length dk, .string t1, .int .i64 a2], .bool off] w fun e w' => e = .returned (.bool R) ∧ Below w.heap.size w w'
set_option maxRecDepth 100000 in
set_option maxHeartbeats 16000000 in
theorem eq_heads (off : Bool) (f : Nat) (EM : EqM off f) : EqC off (f + 1) := by
    intro n m v u w hf hc hn hm
    have HD := Lib.hid (eq_eq off n m)
    have hwe := wt_eq n
    have hwl := wts_len n.kids
    have hkm : ∀ k ∈ n.kids, k.wt ≤ f ∧ k.wt ≤ 100000000 := fun k hk => by have := wt_kid n k hk; omega
    have HKM := Lib.hid hkm
    obtain ⟨pa, ca, pk, ck, rfl, hA, hK⟩ := (node_is w n v).1 hn
    obtain ⟨qa, da, qk, dk, rfl, hB, hL⟩ := (node_is w m u).1 hm
    have hkl : (n.kids.length : Int) ≤ 100000000 := by omega
    have hal : (n.al.length : Int) ≤ 100000000 := by omega
    have hbw : Below w.heap.size w ((w.alloc (.cells #[.int .i64 n.kind, .string n.sp, .string n.nm, .slice pa n.al.length ca, .slice pk n.kids.length ck, .string n.tx, .int .i64 n.at'] 25)).alloc (.cells #[.int .i64 m.kind, .string m.sp, .string m.nm, .slice qa m.al.length da, .slice qk m.kids.length dk, .string m.tx, .int .i64 m.at'] 25)) := ((Below.refl _ _).alloc (Nat.le_refl _) _).alloc (by simp) _
    clear hn hm hkm hf hwe hwl
    have hh : headEq off n m = decide (n.kind = m.kind ∧ n.sp = m.sp ∧ n.nm = m.nm ∧ n.tx = m.tx ∧ (off = true → n.at' = m.at') ∧ n.al.length = m.al.length ∧ n.kids.length = m.kids.length) := rfl
    generalize n.kind = k1 at *
    generalize n.sp = s1 at *
    generalize n.nm = n1 at *
    generalize n.tx = t1 at *
    generalize n.at' = a1 at *
    generalize n.al = al at *
    generalize n.kids = kids at *
    generalize m.kind = k2 at *
    generalize m.sp = s2 at *
    generalize m.nm = n2 at *
    generalize m.tx = t2 at *
    generalize m.at' = a2 at *
    generalize m.al = bl at *
    generalize m.kids = lids at *
    by_cases h1 : k1 = k2
    case neg =>
      have HH := Lib.hid (hh.trans (decide_eq_false (fun q => h1 q.1)))
      have q1 : (k1 != k2) = true := by simpa using h1
      clear hh h1 hA hB hK hL
      go_enter Tryd.func14, Tryd.ntmps14
      go_wp2
      go_ret
      exact ⟨trB (by rw [HD.out, HH.out]; rfl), hbw⟩
    subst h1
    by_cases h2 : s1 = s2
    case neg =>
      have HH := Lib.hid (hh.trans (decide_eq_false (fun q => h2 q.2.1)))
      have q2 := str_ne h2
      have r2 := str_ne2 h2
      have u2 := str_ne3 h2
      clear hh h2 hA hB hK hL
      go_enter Tryd.func14, Tryd.ntmps14
      go_wp2
      go_ret
      exact ⟨trB (by rw [HD.out, HH.out]; rfl), hbw⟩
    subst h2
    by_cases h3 : n1 = n2
    case neg =>
      have HH := Lib.hid (hh.trans (decide_eq_false (fun q => h3 q.2.2.1)))
      have q3 := str_ne h3
      have r3 := str_ne2 h3
      have u3 := str_ne3 h3
      clear hh h3 hA hB hK hL
      go_enter Tryd.func14, Tryd.ntmps14
      go_wp2
      go_ret
      exact ⟨trB (by rw [HD.out, HH.out]; rfl), hbw⟩
    subst h3
    by_cases h4 : t1 = t2
    case neg =>
      have HH := Lib.hid (hh.trans (decide_eq_false (fun q => h4 q.2.2.2.1)))
      have q4 := str_ne h4
      have r4 := str_ne2 h4
      have u4 := str_ne3 h4
      clear hh h4 hA hB hK hL
      go_enter Tryd.func14, Tryd.ntmps14
      go_wp2
      go_ret
      exact ⟨trB (by rw [HD.out, HH.out]; rfl), hbw⟩
    subst h4
    have q5t : off = true → a1 = a2 → (a1 != a2) = false := fun _ e => by simp [e]
    by_cases h5 : off = true ∧ a1 ≠ a2
    case pos =>
      obtain ⟨rfl, h5⟩ := h5
      have HH := Lib.hid (hh.trans (decide_eq_false (fun q => h5 (q.2.2.2.2.1 rfl))))
      have q5 : (a1 != a2) = true := by simpa using h5
      clear hh h5 hA hB hK hL q5t
      go_enter Tryd.func14, Tryd.ntmps14
      go_wp2
      go_ret
      exact ⟨trB (by rw [HD.out, HH.out]; rfl), hbw⟩
    have hoff : off = true → (a1 != a2) = false ∧ a1 = a2 := fun e => by
      have e2 : a1 = a2 := Classical.byContradiction fun q => h5 ⟨e, q⟩
      exact ⟨q5t e e2, e2⟩
    clear h5 q5t
    by_cases h6 : al.length = bl.length
    case neg =>
      have HH := Lib.hid (hh.trans (decide_eq_false (fun q => h6 q.2.2.2.2.2.1)))
      have q6 : ((al.length : Int) != (bl.length : Int)) = true := by simp; omega
      have r6 : ((al.length : Int) == (bl.length : Int)) = false := by simp; omega
      rcases off with _ | _
      · clear hh h6 hA hB hK hL hoff
        go_enter Tryd.func14, Tryd.ntmps14
        go_wp2
        go_ret
        exact ⟨trB (by rw [HD.out, HH.out]; rfl), hbw⟩
      · have q5 := (hoff rfl).1
        clear hh h6 hA hB hK hL hoff
        go_enter Tryd.func14, Tryd.ntmps14
        go_wp2
        go_ret
        exact ⟨trB (by rw [HD.out, HH.out]; rfl), hbw⟩
    by_cases h7 : kids.length = lids.length
    case neg =>
      have HH := Lib.hid (hh.trans (decide_eq_false (fun q => h7 q.2.2.2.2.2.2)))
      have q7 : ((kids.length : Int) != (lids.length : Int)) = true := by simp; omega
      have r7 : ((kids.length : Int) == (lids.length : Int)) = false := by simp; omega
      rw [← h6] at hbw ⊢
      rcases off with _ | _
      · clear hh h7 h6 hA hB hK hL hoff
        go_enter Tryd.func14, Tryd.ntmps14
        go_wp2
        go_ret
        exact ⟨trB (by rw [HD.out, HH.out]; rfl), hbw⟩
      · have q5 := (hoff rfl).1
        clear hh h7 h6 hA hB hK hL hoff
        go_enter Tryd.func14, Tryd.ntmps14
        go_wp2
        go_ret
        exact ⟨trB (by rw [HD.out, HH.out]; rfl), hbw⟩
    have hh1 := hh.trans (decide_eq_true ⟨rfl, rfl, rfl, rfl, fun e => (hoff e).2, h6, h7⟩)
    have HR : n.eqB off m = (allEq off al bl && eqsB off kids lids) := by rw [HD.out, hh1]; rfl
    rw [← h6, ← h7]
    exact EM off rfl w k1 s1 n1 t1 a1 a2 al bl kids lids pa pk qa qk ca ck da dk _ HR (fun e => (hoff e).1) h6 h7 HKM.out hkl hal hA hK hB hL
end Go.Proofs.YtppmoeidgefkpaaDoor
end
section
namespace Go.Proofs.YtppmoeidgefkpaaDoor
open Go.RowKit
def oneIf (b : Bool) : Int := if b then 1 else 0
end Go.Proofs.YtppmoeidgefkpaaDoor
end
section
namespace Go.Proofs.YtppmoeidgefkpaaDoor
open Go.RowKit
def holes (w : World) (L : List Nat) : World := { w with heap := w.heap.mapIdx fun k o => if k ∈ L then .cells #[] 0 (0, 0) else o }
theorem holes_size (w : World) (L : List Nat) : (holes w L).heap.size = w.heap.size := by simp [holes]
theorem holes_ne (w : World) (L : List Nat) (k : Nat) (h : k ∉ L) : (holes w L).heap[k]? = w.heap[k]? := by
  simp [holes, Array.getElem?_mapIdx, h]
theorem holes_in (w : World) (L : List Nat) (k : Nat) (h : k ∈ L) (hk : k < w.heap.size) : (holes w L).heap[k]? = some (.cells #[] 0 (0, 0)) := by
  simp [holes, h, hk]
theorem holes_cell {w : World} {L : List Nat} {a : Addr} {v : Value} (h : (holes w L).cell? a = some v) : w.cell? a = some v ∧ a.block ∉ L ∧ a.block < w.heap.size := by
  have hlt := kblock_lt h
  rw [holes_size] at hlt
  have hne : a.block ∉ L := by
    intro e
    unfold World.cell? at h
    rw [holes_in w L _ e hlt] at h
    simp at h
  exact ⟨by rw [← World.cell?_of_block (holes_ne w L a.block hne)]; exact h, hne, hlt⟩
theorem holes_out {w : World} {L : List Nat} {a : Addr} (h : a.block ∉ L) : (holes w L).cell? a = w.cell? a := World.cell?_of_block (holes_ne w L a.block h)
def Goes (w : World) (L : List Nat) (w' : World) (L' : List Nat) : Prop := ∀ k, k < w.heap.size → k ∉ L → k ∉ L' ∧ w'.heap[k]? = w.heap[k]?
theorem Goes.refl (w : World) (L : List Nat) : Goes w L w L := fun _ _ h => ⟨h, rfl⟩
theorem Goes.trans {w w' w'' : World} {L L' L'' : List Nat} (h : Goes w L w' L') (h' : Goes w' L' w'' L'') (hz : w.heap.size ≤ w'.heap.size) : Goes w L w'' L'' := fun k hk hn => by
  obtain ⟨a, b⟩ := h k hk hn
  obtain ⟨c, d⟩ := h' k (by omega) a
  exact ⟨c, d.trans b⟩
theorem Goes.cell {w w' : World} {L L' : List Nat} (h : Goes w L w' L') (a : Addr) (v : Value) (hc : (holes w L).cell? a = some v) : (holes w' L').cell? a = some v := by
  obtain ⟨h1, h2, h3⟩ := holes_cell hc
  obtain ⟨h4, h5⟩ := h _ h3 h2
  rw [holes_out h4, World.cell?_of_block h5]
  exact h1
theorem Goes.below {w w' : World} {L : List Nat} (h : Below w.heap.size w w') : Goes w L w' L := fun k hk hn => ⟨hn, h.block k hk⟩
theorem Goes.less {w : World} {L L' : List Nat} (h : ∀ k, k ∈ L' → k ∈ L) : Goes w L w L' := fun k _ hn => ⟨fun e => hn (h k e), rfl⟩
theorem Goes.more {w : World} {L L' : List Nat} (h : ∀ k, k ∈ L' → k ∈ L ∨ w.heap.size ≤ k) : Goes w L w L' := fun k hk hn => ⟨fun e => (h k e).elim hn (fun x => by omega), rfl⟩
theorem Goes.grown {w w' : World} {L : List Nat} {row : Option Nat} (h : w.grownBy w' row) (hr : ∀ k, row = some k → k ∈ L) : Goes w L w' L := fun k hk hn => ⟨hn, h.block k hk (fun e => hn (hr k e.symm))⟩
theorem Goes.set {w : World} {L : List Nat} {a : Addr} (h : a.block ∈ L) (u : Value) : Goes w L (w.setCell a u) L := fun k _ hn => ⟨hn, Below.heap_setCell w a u k (fun e => hn (e ▸ h))⟩
theorem Goes.keep {w w' : World} {p : Nat} {L : List Nat} (h : Keep p w w') (hp : p ∈ L) : Goes w L w' L := fun k hk hn => ⟨hn, h.block k hk (fun e => hn (e ▸ hp))⟩
theorem AttrsAt.mono {w w' : World} (hm : ∀ a v, w.cell? a = some v → w'.cell? a = some v) {p : Option Addr} {l : List AttrD} (h : AttrsAt w p l) : AttrsAt w' p l := by
  intro i hi
  obtain ⟨a, ha, h0, h1, h2, h3⟩ := h i hi
  exact ⟨a, ha, hm _ _ h0, hm _ _ h1, hm _ _ h2, hm _ _ h3⟩
mutual
theorem NodeIs.mono {w w' : World} (hm : ∀ a v, w.cell? a = some v → w'.cell? a = some v) : ∀ (n : NodeD) (v : Value), NodeIs w n v → NodeIs w' n v
  | .mk kind sp nm al kids tx at', v, h => by
    rw [NodeIs] at h ⊢
    obtain ⟨pa, ca, pk, ck, rfl, ha, hk⟩ := h
    exact ⟨pa, ca, pk, ck, rfl, ha.mono hm, KidsAt.mono hm kids pk 0 hk⟩
theorem KidsAt.mono {w w' : World} (hm : ∀ a v, w.cell? a = some v → w'.cell? a = some v) : ∀ (l : List NodeD) (p : Option Addr) (i : Nat), KidsAt w p i l → KidsAt w' p i l
  | [], p, i, _ => by rw [KidsAt]; trivial
  | k :: r, p, i, h => by
    rw [KidsAt] at h ⊢
    obtain ⟨⟨a, v0, v1, v2, v3, v4, v5, v6, hp, ⟨h0, h1, h2, h3, h4, h5, h6⟩, hn⟩, hr⟩ := h
    exact ⟨⟨a, v0, v1, v2, v3, v4, v5, v6, hp, ⟨hm _ _ h0, hm _ _ h1, hm _ _ h2, hm _ _ h3, hm _ _ h4, hm _ _ h5, hm _ _ h6⟩, NodeIs.mono hm k _ hn⟩, KidsAt.mono hm r p (i + 1) hr⟩
end
theorem NodeIs.go {w w' : World} {L L' : List Nat} {n : NodeD} {v : Value} (h : NodeIs (holes w L) n v) (hg : Goes w L w' L') : NodeIs (holes w' L') n v := NodeIs.mono (fun a u => hg.cell a u) n v h
theorem AttrsAt.go {w w' : World} {L L' : List Nat} {p : Option Addr} {l : List AttrD} (h : AttrsAt (holes w L) p l) (hg : Goes w L w' L') : AttrsAt (holes w' L') p l := h.mono (fun a u => hg.cell a u)
theorem NodeIs.full {w : World} {L : List Nat} {n : NodeD} {v : Value} (h : NodeIs (holes w L) n v) : NodeIs w n v := NodeIs.mono (fun _ _ hc => (holes_cell hc).1) n v h
def KRow (wc : World) : List NodeD → List Value → Prop
  | [], xs => xs = []
  | k :: r, xs => ∃ v0 v1 v2 v3 v4 v5 v6 ys, xs = v0 :: v1 :: v2 :: v3 :: v4 :: v5 :: v6 :: ys ∧ NodeIs wc k (.agg #[v0, v1, v2, v3, v4, v5, v6]) ∧ KRow wc r ys
theorem KRow.go {w w' : World} {L L' : List Nat} (hg : Goes w L w' L') : ∀ (l : List NodeD) (xs : List Value), KRow (holes w L) l xs → KRow (holes w' L') l xs
  | [], _, h => h
  | k :: r, xs, h => by
    obtain ⟨v0, v1, v2, v3, v4, v5, v6, ys, e, hn, hr⟩ := h
    exact ⟨v0, v1, v2, v3, v4, v5, v6, ys, e, hn.go hg, KRow.go hg r ys hr⟩
theorem KRow.len {wc : World} : ∀ (l : List NodeD) (xs : List Value), KRow wc l xs → xs.length = l.length * 7
  | [], xs, h => by rw [KRow] at h; subst h; rfl
  | k :: r, xs, h => by
    obtain ⟨v0, v1, v2, v3, v4, v5, v6, ys, rfl, _, hr⟩ := h
    have := KRow.len r ys hr
    simp only [List.length_cons]
    omega
theorem KRow.snoc {wc : World} {k : NodeD} {v0 v1 v2 v3 v4 v5 v6 : Value} (hk : NodeIs wc k (.agg #[v0, v1, v2, v3, v4, v5, v6])) : ∀ (l : List NodeD) (xs : List Value), KRow wc l xs → KRow wc (l ++ [k]) (xs ++ [v0, v1, v2, v3, v4, v5, v6])
  | [], xs, h => by
    rw [KRow] at h
    subst h
    exact ⟨v0, v1, v2, v3, v4, v5, v6, [], rfl, hk, rfl⟩
  | x :: r, xs, h => by
    obtain ⟨u0, u1, u2, u3, u4, u5, u6, ys, rfl, hn, hr⟩ := h
    exact ⟨u0, u1, u2, u3, u4, u5, u6, ys ++ [v0, v1, v2, v3, v4, v5, v6], rfl, hn, KRow.snoc hk r ys hr⟩
theorem KRow.last {wc : World} {k : NodeD} : ∀ (l : List NodeD) (xs : List Value), KRow wc (l ++ [k]) xs → ∃ ys v0 v1 v2 v3 v4 v5 v6, xs = ys ++ [v0, v1, v2, v3, v4, v5, v6] ∧ KRow wc l ys ∧ NodeIs wc k (.agg #[v0, v1, v2, v3, v4, v5, v6])
  | [], xs, h => by
    obtain ⟨v0, v1, v2, v3, v4, v5, v6, ys, rfl, hn, hr⟩ := h
    rw [KRow] at hr
    subst hr
    exact ⟨[], v0, v1, v2, v3, v4, v5, v6, rfl, rfl, hn⟩
  | x :: r, xs, h => by
    obtain ⟨u0, u1, u2, u3, u4, u5, u6, ys, rfl, hn, hr⟩ := h
    obtain ⟨zs, v0, v1, v2, v3, v4, v5, v6, rfl, hr', hk⟩ := KRow.last r ys hr
    exact ⟨u0 :: u1 :: u2 :: u3 :: u4 :: u5 :: u6 :: zs, v0, v1, v2, v3, v4, v5, v6, rfl, ⟨u0, u1, u2, u3, u4, u5, u6, zs, rfl, hn, hr'⟩, hk⟩
theorem KRow.kids {wc w : World} (hm : ∀ a v, wc.cell? a = some v → w.cell? a = some v) {g : Nat} : ∀ (l : List NodeD) (xs : List Value) (i : Nat), KRow wc l xs → (∀ j u, xs[j]? = some u → w.cell? ⟨g, i * 7 + j, none⟩ = some u) → KidsAt w (some ⟨g, 0, none⟩) i l
  | [], _, i, _, _ => by rw [KidsAt]; trivial
  | k :: r, xs, i, h, hc => by
    obtain ⟨v0, v1, v2, v3, v4, v5, v6, ys, rfl, hn, hr⟩ := h
    rw [KidsAt]
    have ha : ∀ o, (⟨g, 0, none⟩ : Addr).add o = ⟨g, o, none⟩ := fun o => by unfold Addr.add; split <;> simp_all
    have hb : ∀ o q, (⟨g, o, none⟩ : Addr).add q = ⟨g, o + q, none⟩ := fun o q => by unfold Addr.add; split <;> simp_all
    refine ⟨⟨⟨g, 0, none⟩, v0, v1, v2, v3, v4, v5, v6, rfl, ?_, NodeIs.mono hm k _ hn⟩, KRow.kids hm r ys (i + 1) hr (fun j u hu => ?_)⟩
    · rw [ha]
      simp only [hb]
      exact ⟨hc 0 v0 rfl, hc 1 v1 rfl, hc 2 v2 rfl, hc 3 v3 rfl, hc 4 v4 rfl, hc 5 v5 rfl, hc 6 v6 rfl⟩
    · have := hc (7 + j) u (by rw [show 7 + j = j + 1 + 1 + 1 + 1 + 1 + 1 + 1 by omega]; simpa using hu)
      rw [show (i + 1) * 7 + j = i * 7 + (7 + j) by omega]
      exact this
theorem row_kids {w : World} {L L' : List Nat} {B : Nat} {T : TypeId} {v : Value} {xs : List Value} {l : List NodeD} (hr : w.ownsRow B T 7 v l.length xs) (hk : KRow (holes w L) l xs) (hL : ∀ k, k ∈ L' → k ∈ L) (hg : ∀ g, v.ownBlock = some g → g ∉ L') : ∃ p c, v = .slice p l.length c ∧ KidsAt (holes w L') p 0 l := by
  have hm : ∀ a u, (holes w L).cell? a = some u → (holes w L').cell? a = some u := fun a u h => (Goes.less hL).cell a u h
  rcases hr.2 with ⟨rfl, h0⟩ | ⟨g, cap, cur, rfl, _, hh, _⟩
  · have : l = [] := List.length_eq_zero_iff.1 h0
    subst this
    exact ⟨none, 0, rfl, by rw [KidsAt]; trivial⟩
  · refine ⟨_, cap, rfl, KRow.kids hm l xs 0 hk (fun j u hu => ?_)⟩
    have hc := hr.cells (g := g) rfl j u hu
    rw [show (⟨g, 0, none⟩ : Addr).add j = ⟨g, j, none⟩ by unfold Addr.add; split <;> simp_all] at hc
    rw [show 0 * 7 + j = j by omega, holes_out (show (⟨g, j, none⟩ : Addr).block ∉ L' from hg g rfl)]
    exact hc
end Go.Proofs.YtppmoeidgefkpaaDoor
end
section
namespace Go.Proofs.YtppmoeidgefkpaaDoor
open Go.RowKit
def noB : ByteArray := ⟨#[]⟩
def elemN (t : TokD) (kids : List NodeD) : NodeD := .mk 0 noB (ofBytes t.nm) t.al kids noB t.at'
end Go.Proofs.YtppmoeidgefkpaaDoor
end
section
namespace Go.Proofs.YtppmoeidgefkpaaDoor
open Go.RowKit
def nodeZs : Array Value := #[.int .i64 0, .string ⟨#[]⟩, .string ⟨#[]⟩, .slice none 0 0, .slice none 0 0, .string ⟨#[]⟩, .int .i64 0]
theorem Blk.seven {w : World} {b : Nat} {T : TypeId} (h : Blk w b nodeZs T) : (w.cell? ⟨b, 0, none⟩ = some (.int .i64 0) ∧ w.cell? ⟨b, 1, none⟩ = some (.string ⟨#[]⟩) ∧ w.cell? ⟨b, 2, none⟩ = some (.string ⟨#[]⟩) ∧ w.cell? ⟨b, 3, none⟩ = some (.slice none 0 0) ∧ w.cell? ⟨b, 4, none⟩ = some (.slice none 0 0) ∧ w.cell? ⟨b, 5, none⟩ = some (.string ⟨#[]⟩) ∧ w.cell? ⟨b, 6, none⟩ = some (.int .i64 0)) ∧ (w.frozen? ⟨b, 0, none⟩ = false ∧ w.frozen? ⟨b, 1, none⟩ = false ∧ w.frozen? ⟨b, 2, none⟩ = false ∧ w.frozen? ⟨b, 3, none⟩ = false ∧ w.frozen? ⟨b, 4, none⟩ = false ∧ w.frozen? ⟨b, 5, none⟩ = false ∧ w.frozen? ⟨b, 6, none⟩ = false) :=
  ⟨⟨h.cell 0, h.cell 1, h.cell 2, h.cell 3, h.cell 4, h.cell 5, h.cell 6⟩, h.fr 0, h.fr 1, h.fr 2, h.fr 3, h.fr 4, h.fr 5, h.fr 6⟩
end Go.Proofs.YtppmoeidgefkpaaDoor
end
section
namespace Go.Proofs.YtppmoeidgefkpaaDoor
open Go.RowKit
def addKid (k : NodeD) : NodeD → NodeD
  | .mk kd s n al ks tx a => .mk kd s n al (ks ++ [k]) tx a
def charK (l : List UInt8) (a : Int) : NodeD := .mk 1 noB noB [] [] (ofBytes l) a
structure Mac where
  top : NodeD
  up : List NodeD
  data : List UInt8
  dat : Int
def flushM (m : Mac) : Mac := if m.data = [] then m else { m with top := addKid (charK m.data m.dat) m.top, data := [] }
def startM (m : Mac) (t : TokD) : Mac × Int :=
  if m.up = [] ∧ m.top.kids ≠ [] then (m, 17)
  else if 100 < m.up.length + 1 then (m, 9)
  else if t.em then ({ flushM m with top := addKid (elemN t []) (flushM m).top }, 0)
  else ({ flushM m with top := elemN t [], up := (flushM m).top :: (flushM m).up }, 0)
def popM (m : Mac) : Mac :=
  match m.up with
  | [] => m
  | f :: r => { m with top := addKid m.top f, up := r }
def endM (m : Mac) (t : TokD) : Mac × Int :=
  if m.up = [] then (m, 14)
  else if m.top.nm ≠ ofBytes t.nm then (m, 14)
  else (popM (flushM m), 0)
def textM (m : Mac) (t : TokD) : Mac × Int :=
  if m.up = [] then (if collapse t.tx = [] then (m, 0) else (m, 7))
  else ({ m with data := m.data ++ t.tx, dat := if m.data = [] then t.at' else m.dat }, 0)
def addM (m : Mac) (t : TokD) : Mac × Int := if t.kind = 1 then startM m t else if t.kind = 2 then endM m t else textM m t
def runM : Mac → List TokD → Mac × Int × Int
  | m, [] => (m, 0, 0)
  | m, t :: r => if (addM m t).2 ≠ 0 then ((addM m t).1, t.at', (addM m t).2) else runM (addM m t).1 r
def Bnd (m : Mac) (N : Nat) : Prop := m.top.kids.length ≤ N ∧ (∀ f ∈ m.up, f.kids.length ≤ N) ∧ m.up.length ≤ 100
theorem addKid_kids (k n : NodeD) : (addKid k n).kids = n.kids ++ [k] := by cases n; rfl
theorem flushM_up (m : Mac) : (flushM m).up = m.up := by unfold flushM; split <;> rfl
theorem flushM_data (m : Mac) : (flushM m).data = [] := by
  unfold flushM
  split
  · assumption
  · rfl
theorem Bnd.more {m : Mac} {N K : Nat} (h : Bnd m N) (hk : N ≤ K) : Bnd m K := ⟨by have := h.1; omega, fun f hf => by have := h.2.1 f hf; omega, h.2.2⟩
theorem Bnd.flush {m : Mac} {N : Nat} (h : Bnd m N) : Bnd (flushM m) (N + 1) := by
  unfold flushM
  split
  · exact h.more (by omega)
  · refine ⟨?_, fun f hf => by have := h.2.1 f hf; omega, h.2.2⟩
    show (addKid _ _).kids.length ≤ _
    rw [addKid_kids, List.length_append]
    have := h.1
    simp
    omega
theorem Bnd.add {m : Mac} {N : Nat} (t : TokD) (h : Bnd m N) : Bnd (addM m t).1 (N + 2) := by
  have hf := h.flush
  unfold addM
  split
  · unfold startM
    split
    · exact h.more (by omega)
    · split
      · exact h.more (by omega)
      · rename_i hup
        split
        · refine ⟨?_, fun f hh => by have := hf.2.1 f hh; omega, hf.2.2⟩
          show (addKid _ _).kids.length ≤ _
          rw [addKid_kids, List.length_append]
          have := hf.1
          simp
          omega
        · refine ⟨by show ([] : List NodeD).length ≤ _; simp, fun f hh => ?_, ?_⟩
          · rcases List.mem_cons.1 hh with rfl | hh
            · have := hf.1; omega
            · have := hf.2.1 f hh; omega
          · show (_ :: (flushM m).up).length ≤ 100
            rw [List.length_cons, flushM_up]
            omega
  · split
    · unfold endM
      split
      · exact h.more (by omega)
      · split
        · exact h.more (by omega)
        · unfold popM
          show Bnd (match (flushM m).up with | [] => flushM m | f :: r => { flushM m with top := addKid (flushM m).top f, up := r }) (N + 2)
          cases hu : (flushM m).up with
          | nil => exact hf.more (by omega)
          | cons f r =>
            have h2 := hf.2.1
            have h3 := hf.2.2
            rw [hu] at h2 h3
            refine ⟨?_, fun g hg => by have := h2 g (List.mem_cons_of_mem _ hg); omega, by simp at h3; show r.length ≤ 100; omega⟩
            show (addKid _ _).kids.length ≤ _
            rw [addKid_kids, List.length_append]
            have := h2 f (List.mem_cons_self ..)
            simp
            omega
    · unfold textM
      split
      · split
        · exact h.more (by omega)
        · exact h.more (by omega)
      · exact ⟨by have := h.1; show m.top.kids.length ≤ _; omega, fun f hh => by have := h.2.1 f hh; omega, h.2.2⟩
def Node7 (w wc : World) (b o : Nat) (f : NodeD) (v : Value) : Prop := ∃ pa ca, (w.cell? ⟨b, o, none⟩ = some (.int .i64 f.kind) ∧ w.cell? ⟨b, o + 1, none⟩ = some (.string f.sp) ∧ w.cell? ⟨b, o + 2, none⟩ = some (.string f.nm) ∧ w.cell? ⟨b, o + 3, none⟩ = some (.slice pa f.al.length ca) ∧ w.cell? ⟨b, o + 4, none⟩ = some v ∧ w.cell? ⟨b, o + 5, none⟩ = some (.string f.tx) ∧ w.cell? ⟨b, o + 6, none⟩ = some (.int .i64 f.at')) ∧ AttrsAt wc pa f.al
def Up (w wc : World) (B pb : Nat) : List (Nat × Nat) → List NodeD → Prop
  | [a], [] => a.1 = pb ∧ a.2 = 0
  | a :: a' :: ads, f :: r => (a.1 ≠ pb ∧ ∃ cap xs c0 c1 c2 c3 c4 c5 c6, a.2 = f.kids.length * 7 ∧ Node7 w wc a'.1 a'.2 f (.slice (some ⟨a.1, 0, none⟩) (f.kids.length + 1) cap) ∧ w.ownsRow B 25 7 (.slice (some ⟨a.1, 0, none⟩) (f.kids.length + 1) cap) (f.kids.length + 1) (xs ++ [c0, c1, c2, c3, c4, c5, c6]) ∧ KRow wc f.kids xs) ∧ Up w wc B pb (a' :: ads) r
  | _, _ => False
def nodesL (ads : List (Nat × Nat)) (v0 : Value) : List Nat := ads.map Prod.fst ++ v0.ownBlock.toList
structure TI (w : World) (L : List Nat) (B pb : Nat) (top : NodeD) (up : List NodeD) (ads : List (Nat × Nat)) (v0 : Value) (xs : List Value) : Prop where
  nodup : (nodesL ads v0).Nodup
  top7 : ∃ a r, ads = a :: r ∧ Node7 w (holes w L) a.1 a.2 top v0
  row : w.ownsRow B 25 7 v0 top.kids.length xs
  kids : KRow (holes w L) top.kids xs
  up : Up w (holes w L) B pb ads up
theorem rowSame {w w' : World} {B : Nat} {e : TypeId} {k n : Nat} {v : Value} {xs : List Value} (h : w.ownsRow B e k v n xs) (hs : ∀ g, v.ownBlock = some g → w'.heap[g]? = w.heap[g]?) : w'.ownsRow B e k v n xs := by
  refine ⟨h.1, ?_⟩
  rcases h.2 with hn | ⟨g, cap, cur, rfl, hb, hg, rest⟩
  · exact .inl hn
  · exact .inr ⟨g, cap, cur, rfl, hb, (hs g rfl).trans hg, rest⟩
theorem row_kind {w : World} {B : Nat} {e : TypeId} {k n : Nat} {v : Value} {xs : List Value} (h : w.ownsRow B e k v n xs) : ∀ g, v.ownBlock = some g → B ≤ g ∧ g < w.heap.size ∧ ∃ cs fz, w.heap[g]? = some (.cells cs e fz) := by
  intro g hg
  rcases h.2 with ⟨rfl, _⟩ | ⟨g', cap, cur, rfl, hb, hh, _⟩
  · cases hg
  · simp only [Value.ownBlock, Option.some.injEq] at hg
    subst hg
    exact ⟨hb, (Array.getElem?_eq_some_iff.1 hh).1, _, _, hh⟩
theorem Node7.go {w w' : World} {L L' : List Nat} {b o : Nat} {f : NodeD} {v : Value} (h : Node7 w (holes w L) b o f v) (hg : Goes w L w' L') (hc : ∀ j, j < 7 → w'.cell? ⟨b, o + j, none⟩ = w.cell? ⟨b, o + j, none⟩) : Node7 w' (holes w' L') b o f v := by
  obtain ⟨pa, ca, ⟨h0, h1, h2, h3, h4, h5, h6⟩, ha⟩ := h
  exact ⟨pa, ca, ⟨(hc 0 (by decide)).trans h0, (hc 1 (by decide)).trans h1, (hc 2 (by decide)).trans h2, (hc 3 (by decide)).trans h3, (hc 4 (by decide)).trans h4, (hc 5 (by decide)).trans h5, (hc 6 (by decide)).trans h6⟩, ha.go hg⟩
theorem Up.head {w wc : World} {B pb : Nat} {a : Nat × Nat} {ads : List (Nat × Nat)} {up : List NodeD} (h : Up w wc B pb (a :: ads) up) : (a.1 = pb ∧ a.2 = 0 ∧ ads = [] ∧ up = []) ∨ (a.1 ≠ pb ∧ ads ≠ [] ∧ up ≠ []) := by
  match ads, up, h with
  | [], [], h => exact .inl ⟨h.1, h.2, rfl, rfl⟩
  | _ :: _, _ :: _, h => exact .inr ⟨h.1.1, by simp, by simp⟩
  | [], _ :: _, h => exact h.elim
  | _ :: _, [], h => exact h.elim
theorem here_cells {w w' : World} {pb : Nat} {a : Nat × Nat} (hp : ∀ j, j < 7 → w'.cell? ⟨pb, j, none⟩ = w.cell? ⟨pb, j, none⟩) (hs : a.1 ≠ pb → w'.heap[a.1]? = w.heap[a.1]?) (h : (a.1 = pb ∧ a.2 = 0) ∨ a.1 ≠ pb) : ∀ j, j < 7 → w'.cell? ⟨a.1, a.2 + j, none⟩ = w.cell? ⟨a.1, a.2 + j, none⟩ := by
  intro j hj
  rcases h with ⟨h1, h2⟩ | h
  · rw [h1, h2, Nat.zero_add]; exact hp j hj
  · exact World.cell?_of_block (w := w) (hs h)
theorem Up.go {w w' : World} {L L' : List Nat} {B pb : Nat} (hg : Goes w L w' L') (hp : ∀ j, j < 7 → w'.cell? ⟨pb, j, none⟩ = w.cell? ⟨pb, j, none⟩) : ∀ (ads : List (Nat × Nat)) (up : List NodeD), (∀ a ∈ ads, a.1 ≠ pb → w'.heap[a.1]? = w.heap[a.1]?) → Up w (holes w L) B pb ads up → Up w' (holes w' L') B pb ads up
  | [a], [], _, h => h
  | a :: a' :: ads, f :: r, hs, h => by
    obtain ⟨⟨hne, cap, xs, c0, c1, c2, c3, c4, c5, c6, ho, h7, hr, hk⟩, hu⟩ := h
    have hh := Up.head hu
    refine ⟨⟨hne, cap, xs, c0, c1, c2, c3, c4, c5, c6, ho, h7.go hg (here_cells hp (hs a' (by simp)) (hh.imp (fun x => ⟨x.1, x.2.1⟩) (fun x => x.1))), rowSame hr (fun g hv => ?_), KRow.go hg _ _ hk⟩, Up.go hg hp (a' :: ads) r (fun b hb => hs b (List.mem_cons_of_mem _ hb)) hu⟩
    simp only [Value.ownBlock, Option.some.injEq] at hv
    subst hv
    exact hs a (by simp) hne
  | [], _, _, h => by cases ‹List NodeD› <;> exact h.elim
  | [_], _ :: _, _, h => h.elim
  | _ :: _ :: _, [], _, h => h.elim
theorem TI.go {w w' : World} {L L' : List Nat} {B pb : Nat} {top : NodeD} {up : List NodeD} {ads : List (Nat × Nat)} {v0 : Value} {xs : List Value} (h : TI w L B pb top up ads v0 xs) (hg : Goes w L w' L') (hp : ∀ j, j < 7 → w'.cell? ⟨pb, j, none⟩ = w.cell? ⟨pb, j, none⟩) (hs : ∀ k ∈ nodesL ads v0, k ≠ pb → w'.heap[k]? = w.heap[k]?) (h0 : ∀ g, v0.ownBlock = some g → g ≠ pb) : TI w' L' B pb top up ads v0 xs := by
  obtain ⟨hn, ⟨a, r, rfl, h7⟩, hr, hk, hu⟩ := h
  have hs' : ∀ b ∈ a :: r, b.1 ≠ pb → w'.heap[b.1]? = w.heap[b.1]? := fun b hb => hs b.1 (List.mem_append_left _ (List.mem_map_of_mem hb))
  refine ⟨hn, ⟨a, r, rfl, h7.go hg (here_cells hp (hs' a (by simp)) (hu.head.imp (fun x => ⟨x.1, x.2.1⟩) (fun x => x.1)))⟩, rowSame hr (fun g hv => hs g (List.mem_append_right _ (by rw [hv]; simp)) (h0 g hv)), KRow.go hg _ _ hk, Up.go hg hp _ _ hs' hu⟩
theorem TI.kind {w : World} {L : List Nat} {B pb : Nat} {top : NodeD} {up : List NodeD} {ads : List (Nat × Nat)} {v0 : Value} {xs : List Value} (h : TI w L B pb top up ads v0 xs) : ∀ k ∈ nodesL ads v0, k = pb ∨ (B ≤ k ∧ k < w.heap.size ∧ ∃ cs fz, w.heap[k]? = some (.cells cs 25 fz)) := by
  obtain ⟨_, _, hr, _, hu⟩ := h
  have hA : ∀ (ads : List (Nat × Nat)) (up : List NodeD), Up w (holes w L) B pb ads up → ∀ k ∈ ads.map Prod.fst, k = pb ∨ (B ≤ k ∧ k < w.heap.size ∧ ∃ cs fz, w.heap[k]? = some (.cells cs 25 fz)) := by
    intro ads
    induction ads with
    | nil => intro up h k hk; simp at hk
    | cons a r ih =>
      intro up h k hk
      match r, up, h, ih with
      | [], [], h, _ =>
        simp only [List.map_cons, List.map_nil, List.mem_singleton] at hk
        exact .inl (hk.trans h.1)
      | a' :: ads, f :: r, h, ih =>
        rw [List.map_cons] at hk
        rcases List.mem_cons.1 hk with rfl | hk
        · obtain ⟨⟨_, cap, xs, c0, c1, c2, c3, c4, c5, c6, _, _, hr, _⟩, _⟩ := h
          exact .inr (row_kind hr _ rfl)
        · exact ih r h.2 k hk
      | [], _ :: _, h, _ => exact h.elim
      | _ :: _, [], h, _ => exact h.elim
  intro k hk
  rcases List.mem_append.1 hk with hk | hk
  · exact hA _ _ hu k hk
  · cases hv : v0.ownBlock with
    | none => rw [hv] at hk; simp at hk
    | some g =>
      rw [hv] at hk
      simp at hk
      subst hk
      exact .inr (row_kind hr _ hv)
end Go.Proofs.YtppmoeidgefkpaaDoor
end
section
namespace Go.Proofs.YtppmoeidgefkpaaDoor
open Go.RowKit
structure Chg (pb : Nat) (v v' : Value) (w w' : World) : Prop where
  os : w'.os = w.os
  tape : w'.tape = w.tape
  output : w'.output = w.output
  size : w.heap.size ≤ w'.heap.size
  block : ∀ k, k < w.heap.size → k ≠ pb → some k ≠ v.ownBlock → w'.heap[k]? = w.heap[k]?
  own : ∀ k, v'.ownBlock = some k → v.ownBlock = some k ∨ w.heap.size ≤ k
theorem Chg.below {B pb : Nat} {v v' : Value} {w w' : World} (h : Chg pb v v' w w') (hp : B ≤ pb) (hv : ∀ k, v.ownBlock = some k → B ≤ k) (hB : B ≤ w.heap.size) : Below B w w' :=
  ⟨h.os, h.tape, h.output, h.size, fun k hk => h.block k (by omega) (by omega) (fun e => by have := hv k e.symm; omega)⟩
theorem Chg.refl (pb : Nat) (v : Value) (w : World) : Chg pb v v w w := ⟨rfl, rfl, rfl, Nat.le_refl _, fun _ _ _ _ => rfl, fun _ h => .inl h⟩
theorem Blk.set {w : World} {b : Nat} {cs : Array Value} {T : TypeId} (h : Blk w b cs T) (o : Nat) (u : Value) : Blk (w.setCell ⟨b, o, none⟩ u) b (cs.setIfInBounds o u) T := heap_setCell_same w b o _ _ u h
end Go.Proofs.YtppmoeidgefkpaaDoor
end
section
namespace Go.Proofs.YtppmoeidgefkpaaDoor
open Go.RowKit
variable {X : List Nat}
theorem addKid_is (k n : NodeD) : (addKid k n).kind = n.kind ∧ (addKid k n).sp = n.sp ∧ (addKid k n).nm = n.nm ∧ (addKid k n).al = n.al ∧ (addKid k n).tx = n.tx ∧ (addKid k n).at' = n.at' := by cases n; exact ⟨rfl, rfl, rfl, rfl, rfl, rfl⟩
theorem Node7.re {w wc : World} {b o : Nat} {f f' : NodeD} {v : Value} (h : Node7 w wc b o f v) (e : f'.kind = f.kind ∧ f'.sp = f.sp ∧ f'.nm = f.nm ∧ f'.al = f.al ∧ f'.tx = f.tx ∧ f'.at' = f.at') : Node7 w wc b o f' v := by
  obtain ⟨e0, e1, e2, e3, e4, e5⟩ := e
  unfold Node7 at *
  rw [e0, e1, e2, e3, e4, e5]
  exact h
theorem Up.set {w : World} {L : List Nat} {B pb : Nat} {a : Nat × Nat} {ads : List (Nat × Nat)} {up : List NodeD} (u : Value) (h : Up w (holes w L) B pb (a :: ads) up) (hn : a.1 ∉ ads.map Prod.fst) (hL : a.1 ∈ L) : Up (w.setCell ⟨a.1, a.2 + 4, none⟩ u) (holes (w.setCell ⟨a.1, a.2 + 4, none⟩ u) L) B pb (a :: ads) up := by
  have hg : Goes w L (w.setCell ⟨a.1, a.2 + 4, none⟩ u) L := Goes.set hL u
  match ads, up, h with
  | [], [], h => exact h
  | a' :: ads, f :: r, h =>
    obtain ⟨⟨hne, cap, xs, c0, c1, c2, c3, c4, c5, c6, ho, h7, hr, hk⟩, hu⟩ := h
    have hl := hk.len
    have hst := (World.ownsRow.stored hr (a.2 + 4) u).1
    rw [ho, List.set_append_right _ _ (by omega), show f.kids.length * 7 + 4 - xs.length = 4 by omega] at hst
    have hs : ∀ b ∈ a' :: ads, (w.setCell ⟨a.1, a.2 + 4, none⟩ u).heap[b.1]? = w.heap[b.1]? := fun b hb => Below.heap_setCell _ _ _ _ (fun e => hn (by rw [← show b.1 = a.1 from e]; exact List.mem_map_of_mem hb))
    refine ⟨⟨hne, cap, xs, c0, c1, c2, c3, u, c5, c6, ho, h7.go hg (fun j _ => World.cell?_of_block (w := w) (hs a' (by simp))), by rw [ho]; exact hst, KRow.go hg _ _ hk⟩, Up.go hg (fun j _ => World.cell?_of_block (w := w) (Below.heap_setCell _ _ _ _ (fun e => hne e.symm))) _ _ (fun b hb _ => hs b hb) hu⟩
  | [], _ :: _, h => exact h.elim
  | _ :: _, [], h => exact h.elim
theorem nodes_nodup {ads : List (Nat × Nat)} {v0 : Value} : (nodesL ads v0).Nodup ↔ (ads.map Prod.fst).Nodup ∧ ∀ k, v0.ownBlock = some k → k ∉ ads.map Prod.fst := by
  unfold nodesL
  cases v0.ownBlock with
  | none => simp
  | some g => simp [List.nodup_append]; intro _; constructor <;> (intro h; grind)
theorem seven_cells {w : World} {B g n cap : Nat} {xs : List Value} {c0 c1 c2 c3 c4 c5 c6 : Value} (hr : w.ownsRow B 25 7 (.slice (some ⟨g, 0, none⟩) (n + 1) cap) (n + 1) (xs ++ [c0, c1, c2, c3, c4, c5, c6])) (hl : xs.length = n * 7) : w.cell? ⟨g, n * 7, none⟩ = some c0 ∧ w.cell? ⟨g, n * 7 + 1, none⟩ = some c1 ∧ w.cell? ⟨g, n * 7 + 2, none⟩ = some c2 ∧ w.cell? ⟨g, n * 7 + 3, none⟩ = some c3 ∧ w.cell? ⟨g, n * 7 + 4, none⟩ = some c4 ∧ w.cell? ⟨g, n * 7 + 5, none⟩ = some c5 ∧ w.cell? ⟨g, n * 7 + 6, none⟩ = some c6 := by
  have hc : ∀ j u, [c0, c1, c2, c3, c4, c5, c6][j]? = some u → w.cell? ⟨g, n * 7 + j, none⟩ = some u := by
    intro j u hu
    have := World.ownsRow.cells hr (g := g) rfl (n * 7 + j) u (by rw [List.getElem?_append_right (by omega), show n * 7 + j - xs.length = j by omega]; exact hu)
    rw [show (⟨g, 0, none⟩ : Addr).add (n * 7 + j) = ⟨g, n * 7 + j, none⟩ by unfold Addr.add; split <;> simp_all] at this
    exact this
  exact ⟨hc 0 _ rfl, hc 1 _ rfl, hc 2 _ rfl, hc 3 _ rfl, hc 4 _ rfl, hc 5 _ rfl, hc 6 _ rfl⟩
theorem TI.push {w : World} {L L' : List Nat} {B pb : Nat} {top : NodeD} {up : List NodeD} {a : Nat × Nat} {ads : List (Nat × Nat)} {t : TokD} {g cap : Nat} {xs : List Value} {pa : Option Addr} {ca : Nat}
    (h : TI w L B pb (addKid (elemN t []) top) up (a :: ads) (.slice (some ⟨g, 0, none⟩) (top.kids.length + 1) cap) (xs ++ [.int .i64 0, .string noB, .string (ofBytes t.nm), .slice pa t.al.length ca, .slice none 0 0, .string noB, .int .i64 t.at'])) (hk : KRow (holes w L) top.kids xs) (hat : AttrsAt (holes w L) pa t.al) (hL : ∀ k, k ∈ L' → k ∈ L) (hpb : g ≠ pb) :
    TI w L' B pb (elemN t []) (top :: up) ((g, top.kids.length * 7) :: a :: ads) (.slice none 0 0) [] := by
  obtain ⟨hn, ⟨a', r', har, h7⟩, hr, _, hu⟩ := h
  injection har with e1 e2
  subst e1
  subst e2
  have hg : Goes w L w L' := Goes.less hL
  rw [addKid_kids, List.length_append, List.length_singleton] at hr
  have hl := hk.len
  obtain ⟨d0, d1, d2, d3, d4, d5, d6⟩ := seven_cells hr hl
  have hnd := nodes_nodup.1 hn
  refine ⟨nodes_nodup.2 ⟨?_, fun k hk => by cases hk⟩, ⟨_, _, rfl, pa, ca, ⟨d0, d1, d2, d3, d4, d5, d6⟩, hat.go hg⟩, World.ownsRow_nil _ _ _ _, rfl, ⟨⟨hpb, cap, xs, _, _, _, _, _, _, _, rfl, (h7.go hg (fun _ _ => rfl)).re ?_, hr, KRow.go hg _ _ hk⟩, Up.go hg (fun _ _ => rfl) _ _ (fun _ _ _ => rfl) hu⟩⟩
  · rw [List.map_cons, List.nodup_cons]
    exact ⟨hnd.2 g rfl, hnd.1⟩
  · obtain ⟨x0, x1, x2, x3, x4, x5⟩ := addKid_is (elemN t []) top
    exact ⟨x0.symm, x1.symm, x2.symm, x3.symm, x4.symm, x5.symm⟩
end Go.Proofs.YtppmoeidgefkpaaDoor
end
section
namespace Go.Proofs.YtppmoeidgefkpaaDoor
open Go.RowKit
theorem TokensAt.mono {w w' : World} (hm : ∀ a v, w.cell? a = some v → w'.cell? a = some v) {p : Option Addr} {l : List TokD} (h : TokensAt w p l) : TokensAt w' p l := by
  intro i hi
  obtain ⟨a, q, c, ha, ⟨h0, h1, h2, h3, h4, h5⟩, h6⟩ := h i hi
  exact ⟨a, q, c, ha, ⟨hm _ _ h0, hm _ _ h1, hm _ _ h2, hm _ _ h3, hm _ _ h4, hm _ _ h5⟩, h6.mono hm⟩
theorem TokensAt.go {w w' : World} {L L' : List Nat} {p : Option Addr} {l : List TokD} (h : TokensAt (holes w L) p l) (hg : Goes w L w' L') : TokensAt (holes w' L') p l := h.mono (fun a u => hg.cell a u)
theorem own_lt {w : World} {B : Nat} {e : TypeId} {k n : Nat} {v : Value} {xs : List Value} (h : w.ownsRow B e k v n xs) : ∀ b ∈ v.ownBlock.toList, B ≤ b ∧ b < w.heap.size := by
  intro b hb
  have : v.ownBlock = some b := by simpa using hb
  obtain ⟨h1, h2, _⟩ := row_kind h b this
  exact ⟨h1, h2⟩
section
variable {w0 : World} {p : Nat} {A : Option Addr} {nt ct : Nat} {l : List TokD} {hs : Nat} {t : TokD} {qa : Option Addr} {ca : Nat} {a0 : Int} {i : Nat} {kids : List NodeD} {vk : Value} {xs : List Value} {w : World}
end
end Go.Proofs.YtppmoeidgefkpaaDoor
end
section
namespace Go.Proofs.YtppmoeidgefkpaaDoor
open Go.RowKit
variable {X : List Nat}
theorem cell_alloc {w : World} {c : Addr} {v : Value} (h : w.cell? c = some v) : ∀ o, (w.alloc o).cell? c = some v := fun o => (((Below.refl w.heap.size w).alloc (Nat.le_refl _) o).cell (kblock_lt h)).trans h
theorem kinfo_node : (Tryd.prog.info? 25).map (fun i => (i.zero, i.size, i.bytes)) = some (some (.agg #[.int .i64 0, .string ⟨#[]⟩, .string ⟨#[]⟩, .slice none 0 0, .slice none 0 0, .string ⟨#[]⟩, .int .i64 0]), 7, 112) := by kernel_rfl
theorem row_val {w : World} {B : Nat} {e : TypeId} {s n : Nat} {v : Value} {xs : List Value} (h : w.ownsRow B e s v n xs) : ∃ a c, v = .slice a n c := by
  rcases h.2 with ⟨rfl, rfl⟩ | ⟨g, cap, cur, rfl, _⟩
  · exact ⟨_, _, rfl⟩
  · exact ⟨_, _, rfl⟩
end Go.Proofs.YtppmoeidgefkpaaDoor
end
section
namespace Go.Proofs.YtppmoeidgefkpaaDoor
open Go.RowKit
section
variable {ops : Array Oper} {o : Oper} {a : Act} {w : World} {K : Act → World → Prop} {Q : Exit → Act → World → Prop} {E : Prop}
end
def NK (N Kb : Nat) (vk c0 c1 c2 c3 c4 c5 c6 : Value) (w : World) : Prop := w.cell? ⟨N, 4, none⟩ = some vk ∧ w.cell? ⟨Kb, 0, none⟩ = some c0 ∧ w.cell? ⟨Kb, 1, none⟩ = some c1 ∧ w.cell? ⟨Kb, 2, none⟩ = some c2 ∧ w.cell? ⟨Kb, 3, none⟩ = some c3 ∧ w.cell? ⟨Kb, 4, none⟩ = some c4 ∧ w.cell? ⟨Kb, 5, none⟩ = some c5 ∧ w.cell? ⟨Kb, 6, none⟩ = some c6
theorem NK.below {N Kb : Nat} {vk c0 c1 c2 c3 c4 c5 c6 : Value} {w w' : World} (h : NK N Kb vk c0 c1 c2 c3 c4 c5 c6 w) {B : Nat} (hb : Below B w w') (hN : N < B) (hK : Kb < B) : NK N Kb vk c0 c1 c2 c3 c4 c5 c6 w' := by
  obtain ⟨h0, h1, h2, h3, h4, h5, h6, h7⟩ := h
  exact ⟨(hb.cell (p := ⟨N, 4, none⟩) hN).trans h0, (hb.cell (p := ⟨Kb, 0, none⟩) hK).trans h1, (hb.cell (p := ⟨Kb, 1, none⟩) hK).trans h2, (hb.cell (p := ⟨Kb, 2, none⟩) hK).trans h3, (hb.cell (p := ⟨Kb, 3, none⟩) hK).trans h4, (hb.cell (p := ⟨Kb, 4, none⟩) hK).trans h5, (hb.cell (p := ⟨Kb, 5, none⟩) hK).trans h6, (hb.cell (p := ⟨Kb, 6, none⟩) hK).trans h7⟩
def NU (N U : Nat) (vk c4 c5 : Value) (w : World) : Prop := w.cell? ⟨N, 4, none⟩ = some vk ∧ w.cell? ⟨U, 4, none⟩ = some c4 ∧ w.cell? ⟨U, 5, none⟩ = some c5
theorem NU.below {N U : Nat} {vk c4 c5 : Value} {w w' : World} (h : NU N U vk c4 c5 w) {B : Nat} (hb : Below B w w') (hN : N < B) (hK : U < B) : NU N U vk c4 c5 w' := by
  obtain ⟨h0, h1, h2⟩ := h
  exact ⟨(hb.cell (p := ⟨N, 4, none⟩) hN).trans h0, (hb.cell (p := ⟨U, 4, none⟩) hK).trans h1, (hb.cell (p := ⟨U, 5, none⟩) hK).trans h2⟩
end Go.Proofs.YtppmoeidgefkpaaDoor
end
section
namespace Go.Proofs.YtppmoeidgefkpaaDoor
open Go.RowKit
mutual
def NodeD.normB : NodeD → Bool
  | .mk _ _ _ _ kids _ _ => normK false kids
def normK : Bool → List NodeD → Bool
  | _, [] => true
  | pv, k :: r => !(decide (k.kind = 1) && (decide (k.tx.size = 0) || pv)) && (k.normB && normK (decide (k.kind = 1)) r)
end
theorem norm_eq (n : NodeD) : n.normB = normK false n.kids := by cases n; rw [NodeD.normB]; rfl
end Go.Proofs.YtppmoeidgefkpaaDoor
end
section
namespace Go.Proofs.YtppmoeidgefkpaaDoor
open Go.RowKit
def lastC : Bool → List NodeD → Bool
  | pv, [] => pv
  | _, k :: r => lastC (decide (k.kind = 1)) r
theorem lastC_snoc (k : NodeD) : ∀ (l : List NodeD) (pv : Bool), lastC pv (l ++ [k]) = decide (k.kind = 1)
  | [], _ => rfl
  | x :: r, _ => by rw [List.cons_append, lastC]; exact lastC_snoc k r _
theorem normK_snoc (k : NodeD) : ∀ (l : List NodeD) (pv : Bool), normK pv (l ++ [k]) = (normK pv l && (!(decide (k.kind = 1) && (decide (k.tx.size = 0) || lastC pv l)) && k.normB))
  | [], pv => by rw [List.nil_append, normK, normK, lastC, normK, Bool.and_true, Bool.true_and]
  | x :: r, pv => by
    rw [List.cons_append, normK, normK_snoc k r, normK, lastC]
    simp only [Bool.and_assoc]
theorem addKid_is' (k n : NodeD) : (addKid k n).kind = n.kind := by cases n; rfl
theorem depths_leU : ∀ (l : List NodeD) (d m : Nat), d ≤ m → (∀ k ∈ l, k.depth ≤ m) → depths l d ≤ m
  | [], _, _, h, _ => h
  | k :: r, d, m, h, hk => by
    rw [depths]
    exact depths_leU r _ m (Nat.max_le.2 ⟨h, hk k (List.mem_cons_self ..)⟩) (fun x hx => hk x (List.mem_cons_of_mem _ hx))
def FrOk (d : Nat) (f : NodeD) : Prop := f.kind = 0 ∧ normK false f.kids = true ∧ ∀ k ∈ f.kids, k.depth + d ≤ 100
def UpOk : List NodeD → Prop
  | [] => True
  | f :: r => FrOk r.length f ∧ UpOk r
def DocOk (up : List NodeD) (top : NodeD) : Prop := match up.getLast? with
  | none => ∀ k ∈ top.kids, k.kind = 0
  | some f => ∀ k ∈ f.kids, k.kind = 0
structure MOk (m : Mac) : Prop where
  top : FrOk m.up.length m.top
  last : lastC false m.top.kids = false
  up : UpOk m.up
  deep : m.up.length ≤ 100
  doc : DocOk m.up m.top
  data : m.up = [] → m.data = []
theorem MOk.flush {m : Mac} (h : MOk m) : FrOk (flushM m).up.length (flushM m).top ∧ UpOk (flushM m).up ∧ DocOk (flushM m).up (flushM m).top := by
  unfold flushM
  split
  · exact ⟨h.top, h.up, h.doc⟩
  · rename_i hd
    have hup : m.up ≠ [] := fun e => hd (h.data e)
    obtain ⟨h1, h2, h3⟩ := h.top
    refine ⟨⟨(addKid_is' _ _).trans h1, ?_, ?_⟩, h.up, ?_⟩
    · show normK false (addKid _ _).kids = true
      rw [addKid_kids, normK_snoc, h2, h.last]
      have hz : (ofBytes m.data).size ≠ 0 := by rw [ofBytes_size]; exact fun e => hd (List.length_eq_zero_iff.1 e)
      show (true && (!(decide ((charK m.data m.dat).kind = 1) && (decide ((ofBytes m.data).size = 0) || false)) && (charK m.data m.dat).normB)) = true
      rw [decide_eq_false hz]
      rfl
    · intro k hk
      rw [addKid_kids] at hk
      rcases List.mem_append.1 hk with x | x
      · exact h3 k x
      · rw [List.mem_singleton.1 x]
        have := h.deep
        show (charK m.data m.dat).depth + m.up.length ≤ 100
        have h0 : (charK m.data m.dat).depth = 0 := by unfold charK; rw [NodeD.depth]; rfl
        omega
    · have := h.doc
      unfold DocOk at this ⊢
      simp only
      cases hl : m.up.getLast? with
      | none => exact absurd (List.getLast?_eq_none_iff.1 hl) hup
      | some f => rw [hl] at this; exact this
theorem DocOk.cons {f : NodeD} {r : List NodeD} {top top' : NodeD} (h : DocOk (f :: r) top) : DocOk (f :: r) top' := by
  unfold DocOk at *
  cases hl : (f :: r).getLast? with
  | none => exact absurd (List.getLast?_eq_none_iff.1 hl) (by simp)
  | some g => rw [hl] at h; exact h
theorem MOk.next {m : Mac} (h : MOk m) (t : TokD) : MOk (addM m t).1 := by
  obtain ⟨ht, hu, hd⟩ := h.flush
  have hfu := flushM_up m
  have hfd := flushM_data m
  unfold addM
  split
  · unfold startM
    split
    · exact h
    · split
      · exact h
      · rename_i h1 h2
        rw [hfu] at ht hu hd
        split
        · refine ⟨⟨(addKid_is' _ _).trans ht.1, ?_, ?_⟩, ?_, by show UpOk (flushM m).up; rw [hfu]; exact hu, by show (flushM m).up.length ≤ 100; rw [hfu]; exact h.deep, ?_, fun _ => hfd⟩
          · show normK false (addKid _ _).kids = true
            rw [addKid_kids, normK_snoc, ht.2.1]
            rfl
          · intro k hk
            show k.depth + (flushM m).up.length ≤ 100
            rw [hfu]
            rw [addKid_kids] at hk
            rcases List.mem_append.1 hk with x | x
            · exact ht.2.2 k x
            · rw [List.mem_singleton.1 x]
              have h0 : (elemN t []).depth = 1 := by unfold elemN; rw [NodeD.depth]; rfl
              omega
          · show lastC false (addKid _ _).kids = false
            rw [addKid_kids, lastC_snoc]
            rfl
          · show DocOk (flushM m).up (addKid _ _)
            rw [hfu]
            cases hm : m.up with
            | nil =>
              rw [hm] at hd
              intro k hk
              rw [addKid_kids] at hk
              rcases List.mem_append.1 hk with x | x
              · exact hd k x
              · rw [List.mem_singleton.1 x]; rfl
            | cons f r => rw [hm] at hd; exact hd.cons
        · refine ⟨⟨rfl, rfl, fun k hk => by cases hk⟩, rfl, ?_, ?_, ?_, fun e => by cases e⟩
          · show FrOk (flushM m).up.length (flushM m).top ∧ UpOk (flushM m).up
            rw [hfu]
            exact ⟨ht, hu⟩
          · show ((flushM m).top :: (flushM m).up).length ≤ 100
            rw [List.length_cons, hfu]
            omega
          · show DocOk ((flushM m).top :: (flushM m).up) _
            rw [hfu]
            cases hm : m.up with
            | nil =>
              rw [hm] at hd
              unfold DocOk
              exact hd
            | cons f r =>
              rw [hm] at hd
              unfold DocOk at hd ⊢
              rw [List.getLast?_cons_cons]
              cases hl : (f :: r).getLast? with
              | none => exact absurd (List.getLast?_eq_none_iff.1 hl) (by simp)
              | some g => rw [hl] at hd; exact hd
  · split
    · unfold endM
      split
      · exact h
      · split
        · exact h
        · rename_i h1 _
          show MOk (popM (flushM m))
          unfold popM
          cases hm : (flushM m).up with
          | nil => rw [hfu] at hm; exact absurd hm h1
          | cons f r =>
            rw [hm] at ht hu hd
            have hdp := h.deep
            rw [← hfu, hm] at hdp
            simp only [List.length_cons] at ht hdp
            have hk0 : (flushM m).top.depth + r.length ≤ 100 := by
              rw [depth_eq, ht.1, if_neg (by decide)]
              have := depths_leU (flushM m).top.kids 0 (100 - (r.length + 1)) (Nat.zero_le _) (fun k hk => by have := ht.2.2 k hk; omega)
              omega
            refine ⟨⟨(addKid_is' _ _).trans hu.1.1, ?_, ?_⟩, ?_, hu.2, by show r.length ≤ 100; omega, ?_, fun _ => hfd⟩
            · show normK false (addKid _ _).kids = true
              rw [addKid_kids, normK_snoc, hu.1.2.1, norm_eq, ht.2.1, ht.1]
              rfl
            · intro k hk
              rw [addKid_kids] at hk
              rcases List.mem_append.1 hk with x | x
              · exact hu.1.2.2 k x
              · rw [List.mem_singleton.1 x]; exact hk0
            · show lastC false (addKid _ _).kids = false
              rw [addKid_kids, lastC_snoc, ht.1]
              rfl
            · show DocOk r (addKid _ _)
              cases hr : r with
              | nil =>
                rw [hr] at hd
                intro k hk
                rw [addKid_kids] at hk
                rcases List.mem_append.1 hk with x | x
                · exact hd k x
                · rw [List.mem_singleton.1 x]; exact ht.1
              | cons g q =>
                rw [hr] at hd
                unfold DocOk at hd ⊢
                rw [List.getLast?_cons_cons] at hd
                cases hl : (g :: q).getLast? with
                | none => exact absurd (List.getLast?_eq_none_iff.1 hl) (by simp)
                | some y => rw [hl] at hd; exact hd
    · unfold textM
      split
      · split <;> exact h
      · rename_i h1
        exact ⟨h.top, h.last, h.up, h.deep, h.doc, fun e => absurd e h1⟩
theorem MOk.run : ∀ (l : List TokD) (m : Mac), MOk m → MOk (runM m l).1
  | [], _, h => h
  | t :: r, m, h => by
    rw [runM]
    split
    · exact h.next t
    · exact MOk.run r _ (h.next t)
end Go.Proofs.YtppmoeidgefkpaaDoor
end
section
namespace Go.Proofs.YtppmoeidgefkpaaDoor
open Go.RowKit
theorem KidsAt.cells {w : World} {p : Option Addr} {l : List NodeD} (h : KidsAt w p 0 l) (i : Nat) (hi : i < l.length) : ∃ a pa ca pk ck, p = some a ∧ (w.cell? (a.add (i * 7)) = some (.int .i64 l[i].kind) ∧ w.cell? ((a.add (i * 7)).add 1) = some (.string l[i].sp) ∧ w.cell? ((a.add (i * 7)).add 2) = some (.string l[i].nm) ∧ w.cell? ((a.add (i * 7)).add 3) = some (.slice pa l[i].al.length ca) ∧ w.cell? ((a.add (i * 7)).add 4) = some (.slice pk l[i].kids.length ck) ∧ w.cell? ((a.add (i * 7)).add 5) = some (.string l[i].tx) ∧ w.cell? ((a.add (i * 7)).add 6) = some (.int .i64 l[i].at')) ∧ NodeIs w l[i] (.agg #[.int .i64 l[i].kind, .string l[i].sp, .string l[i].nm, .slice pa l[i].al.length ca, .slice pk l[i].kids.length ck, .string l[i].tx, .int .i64 l[i].at']) := by
  obtain ⟨a, v0, v1, v2, v3, v4, v5, v6, hp, hc, hn⟩ := KidsAt.get l 0 h i hi
  rw [Nat.zero_add] at hc
  have hn' := hn
  rw [node_is] at hn
  obtain ⟨pa, ca, pk, ck, he, _, _⟩ := hn
  injection he with he
  have hcs : [v0, v1, v2, v3, v4, v5, v6] = [.int .i64 l[i].kind, .string l[i].sp, .string l[i].nm, .slice pa l[i].al.length ca, .slice pk l[i].kids.length ck, .string l[i].tx, .int .i64 l[i].at'] := by simpa using he
  simp only [List.cons.injEq, and_true] at hcs
  obtain ⟨rfl, rfl, rfl, rfl, rfl, rfl, rfl⟩ := hcs
  exact ⟨a, pa, ca, pk, ck, hp, hc, hn'⟩
theorem cnts_length : ∀ l : List NodeD, l.length ≤ cnts l
  | [] => Nat.le_refl _
  | k :: r => by
    rw [cnts, List.length_cons]
    have := cnt_eq k
    have := cnts_length r
    omega
end Go.Proofs.YtppmoeidgefkpaaDoor
end
section
namespace Go.Proofs.YtppmoeidgefkpaaDoor
open Go.RowKit
mutual
def FreshIs (w : World) (B : Nat) : NodeD → Value → Prop
  | .mk kind sp nm al kids tx at', v => ∃ va vk xs, v = .agg #[.int .i64 kind, .string sp, .string nm, va, vk, .string tx, .int .i64 at'] ∧ w.ownsRow B 37 4 va al.length (attrsCells al) ∧ w.ownsRow B 25 7 vk kids.length xs ∧ FreshKids w B kids xs
def FreshKids (w : World) (B : Nat) : List NodeD → List Value → Prop
  | [], xs => xs = []
  | k :: r, xs => ∃ v0 v1 v2 v3 v4 v5 v6 ys, xs = v0 :: v1 :: v2 :: v3 :: v4 :: v5 :: v6 :: ys ∧ FreshIs w B k (.agg #[v0, v1, v2, v3, v4, v5, v6]) ∧ FreshKids w B r ys
end
mutual
theorem FreshIs.below {w w' : World} {B B' : Nat} (hb : Below w.heap.size w w') (hB : B' ≤ B) : ∀ (n : NodeD) (v : Value), FreshIs w B n v → FreshIs w' B' n v
  | .mk kind sp nm al kids tx at', v, h => by
    rw [FreshIs] at h ⊢
    obtain ⟨va, vk, xs, rfl, ha, hk, hr⟩ := h
    exact ⟨va, vk, xs, rfl, Go.Joins.ownsRow_le (row_below ha hb) hB, Go.Joins.ownsRow_le (row_below hk hb) hB, FreshKids.below hb hB kids xs hr⟩
theorem FreshKids.below {w w' : World} {B B' : Nat} (hb : Below w.heap.size w w') (hB : B' ≤ B) : ∀ (l : List NodeD) (xs : List Value), FreshKids w B l xs → FreshKids w' B' l xs
  | [], xs, h => by rw [FreshKids] at h ⊢; exact h
  | k :: r, xs, h => by
    rw [FreshKids] at h ⊢
    obtain ⟨v0, v1, v2, v3, v4, v5, v6, ys, rfl, hn, hr⟩ := h
    exact ⟨v0, v1, v2, v3, v4, v5, v6, ys, rfl, FreshIs.below hb hB k _ hn, FreshKids.below hb hB r ys hr⟩
end
theorem FreshKids.snoc {w : World} {B : Nat} {k : NodeD} {v0 v1 v2 v3 v4 v5 v6 : Value} (hk : FreshIs w B k (.agg #[v0, v1, v2, v3, v4, v5, v6])) : ∀ (l : List NodeD) (xs : List Value), FreshKids w B l xs → FreshKids w B (l ++ [k]) (xs ++ [v0, v1, v2, v3, v4, v5, v6])
  | [], xs, h => by
    rw [FreshKids] at h
    subst h
    rw [List.nil_append, FreshKids]
    exact ⟨v0, v1, v2, v3, v4, v5, v6, [], rfl, hk, by rw [FreshKids]⟩
  | x :: r, xs, h => by
    rw [FreshKids] at h
    obtain ⟨u0, u1, u2, u3, u4, u5, u6, ys, rfl, hn, hr⟩ := h
    rw [List.cons_append, FreshKids]
    exact ⟨u0, u1, u2, u3, u4, u5, u6, ys ++ [v0, v1, v2, v3, v4, v5, v6], rfl, hn, FreshKids.snoc hk r ys hr⟩
theorem fresh_val {w : World} {B : Nat} {n : NodeD} {v : Value} (h : FreshIs w B n v) : ∃ pa ca pk ck, v = .agg #[.int .i64 n.kind, .string n.sp, .string n.nm, .slice pa n.al.length ca, .slice pk n.kids.length ck, .string n.tx, .int .i64 n.at'] := by
  cases n with
  | mk kind sp nm al kids tx at' =>
    rw [FreshIs] at h
    obtain ⟨va, vk, xs, rfl, ha, hk, _⟩ := h
    obtain ⟨pa, ca, rfl⟩ := row_val ha
    obtain ⟨pk, ck, rfl⟩ := row_val hk
    exact ⟨pa, ca, pk, ck, rfl⟩
theorem holes_nil (w : World) : holes w [] = w := by
  unfold holes
  have : w.heap.mapIdx (fun k o => if k ∈ ([] : List Nat) then .cells #[] 0 (0, 0) else o) = w.heap := by
    apply Array.ext_getElem?
    intro i
    simp
  rw [this]
end Go.Proofs.YtppmoeidgefkpaaDoor
end
section
namespace Go.Proofs.YtppmoeidgefkpaaDoor
open Go.RowKit
mutual
def NodeD.acnt : NodeD → Nat
  | .mk _ _ _ al kids _ _ => al.length + acnts kids
def acnts : List NodeD → Nat
  | [] => 0
  | k :: r => k.acnt + acnts r
end
theorem acnt_eq (n : NodeD) : n.acnt = n.al.length + acnts n.kids := by cases n; rw [NodeD.acnt]; rfl
theorem acnts_mem : ∀ (l : List NodeD) (k : NodeD), k ∈ l → k.acnt ≤ acnts l
  | [], _, h => by cases h
  | x :: r, k, h => by
    rw [acnts]
    rcases List.mem_cons.1 h with rfl | h
    · omega
    · have := acnts_mem r k h
      omega
end Go.Proofs.YtppmoeidgefkpaaDoor
end
section
namespace Go.Proofs.YtppmoeidgefkpaaDoor
open Go.RowKit
mutual
theorem wt_split : ∀ n : NodeD, n.wt = n.cnt + n.acnt
  | .mk _ _ _ al kids _ _ => by
    rw [NodeD.wt, NodeD.cnt, NodeD.acnt, wts_split kids]
    omega
theorem wts_split : ∀ l : List NodeD, wts l = cnts l + acnts l
  | [] => rfl
  | k :: r => by
    rw [wts, cnts, acnts, wt_split k, wts_split r]
    omega
end
end Go.Proofs.YtppmoeidgefkpaaDoor
end
