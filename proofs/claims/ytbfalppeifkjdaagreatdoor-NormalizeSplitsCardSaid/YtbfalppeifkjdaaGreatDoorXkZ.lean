/- Packed from the texts TokE TokJ TokM TreA Keep Hol MdQ. -/
import Derived.Test.YtbfalppeifkjdaaGreatDoorXLate
import Derived.Test.YtbfalppeifkjdaaGreatDoorXk6
import Derived.Test.YtbfalppeifkjdaaGreatDoorXkB
import Derived.Test.YtbfalppeifkjdaaGreatDoorXkD
import Derived.Test.YtbfalppeifkjdaaGreatDoorXkF
import Derived.Test.YtbfalppeifkjdaaGreatDoorXkJ
import Derived.Lib.ConvBytes
import Derived.Laws.IdiomStrings
import Derived.Deep.QuietTactic
import Derived.BigQuiet
import Derived.WalkSmall
import Derived.Laws.StructEq
import Derived.Lib.SmallJoins
import Derived.BigRegion
import Derived.Lib.OwnKind
import Derived.Lib.Bytes
import Derived.Lib.IndexMore
section
namespace Go.Proofs.YtbfalppeifkjdaaGreatDoor
open Go.RowKit
structure AttrD where
  sp : ByteArray
  nm : ByteArray
  va : ByteArray
  at' : Int
deriving DecidableEq
def AttrsAt (w : World) (p : Option Addr) (l : List AttrD) : Prop := ∀ i (h : i < l.length), ∃ a, p = some a ∧
  w.cell? (a.add (i * 4)) = some (.string l[i].sp) ∧ w.cell? ((a.add (i * 4)).add 1) = some (.string l[i].nm) ∧ w.cell? ((a.add (i * 4)).add 2) = some (.string l[i].va) ∧ w.cell? ((a.add (i * 4)).add 3) = some (.int .i64 l[i].at')
def AttrD.val (x : AttrD) : Value := .agg #[.string x.sp, .string x.nm, .string x.va, .int .i64 x.at']
end Go.Proofs.YtbfalppeifkjdaaGreatDoor
end
section
namespace Go.Proofs.YtbfalppeifkjdaaGreatDoor
open Go.RowKit
def ResAt (w : World) (b : Nat) : Prop := (w.cell? ⟨b, 0, none⟩ = some (.int .i64 0) ∧ w.cell? ⟨b, 1, none⟩ = some (.string ⟨#[]⟩) ∧ w.cell? ⟨b, 2, none⟩ = some (.slice none 0 0) ∧ w.cell? ⟨b, 3, none⟩ = some (.bool false) ∧ w.cell? ⟨b, 4, none⟩ = some (.string ⟨#[]⟩) ∧ w.cell? ⟨b, 5, none⟩ = some (.int .i64 0)) ∧
  w.frozen? ⟨b, 0, none⟩ = false ∧ w.frozen? ⟨b, 1, none⟩ = false ∧ w.frozen? ⟨b, 2, none⟩ = false ∧ w.frozen? ⟨b, 3, none⟩ = false ∧ w.frozen? ⟨b, 4, none⟩ = false ∧ w.frozen? ⟨b, 5, none⟩ = false
theorem ResAt.below {B : Nat} {w w' : World} {b : Nat} (h : ResAt w b) (hb : Below B w w') (hlt : b < B) : ResAt w' b := by
  obtain ⟨⟨r0, r1, r2, r3, r4, r5⟩, q0, q1, q2, q3, q4, q5⟩ := h
  have c := fun o => hb.cell (p := ⟨b, o, none⟩) hlt
  have f := fun o => hb.frozen (p := ⟨b, o, none⟩) hlt
  exact ⟨⟨(c 0).trans r0, (c 1).trans r1, (c 2).trans r2, (c 3).trans r3, (c 4).trans r4, (c 5).trans r5⟩, (f 0).trans q0, (f 1).trans q1, (f 2).trans q2, (f 3).trans q3, (f 4).trans q4, (f 5).trans q5⟩
theorem ResAt.set {w : World} {b : Nat} (h : ResAt w b) {p : Addr} (hp : p.block ≠ b) (u : Value) : ResAt (w.setCell p u) b := by
  obtain ⟨⟨r0, r1, r2, r3, r4, r5⟩, q0, q1, q2, q3, q4, q5⟩ := h
  have c : ∀ o, (w.setCell p u).cell? ⟨b, o, none⟩ = w.cell? ⟨b, o, none⟩ := fun o => World.cell?_setCell_other _ _ _ _ (fun e => hp (by rw [e]))
  have f : ∀ o, (w.setCell p u).frozen? ⟨b, o, none⟩ = w.frozen? ⟨b, o, none⟩ := fun o => World.frozen?_setCell _ _ _ _
  exact ⟨⟨(c 0).trans r0, (c 1).trans r1, (c 2).trans r2, (c 3).trans r3, (c 4).trans r4, (c 5).trans r5⟩, (f 0).trans q0, (f 1).trans q1, (f 2).trans q2, (f 3).trans q3, (f 4).trans q4, (f 5).trans q5⟩
def TagAt (w : World) (b i : Nat) (N : List UInt8) (v : Value) : Prop := (w.cell? ⟨b, 0, none⟩ = some (.int .i64 1) ∧ w.cell? ⟨b, 1, none⟩ = some (.string (ofBytes N)) ∧ w.cell? ⟨b, 2, none⟩ = some v ∧ w.cell? ⟨b, 3, none⟩ = some (.bool false) ∧ w.cell? ⟨b, 4, none⟩ = some (.string ⟨#[]⟩) ∧ w.cell? ⟨b, 5, none⟩ = some (.int .i64 (i : Int))) ∧
  w.frozen? ⟨b, 2, none⟩ = false ∧ w.frozen? ⟨b, 3, none⟩ = false
theorem TagAt.below {B : Nat} {w w' : World} {b i : Nat} {N : List UInt8} {v : Value} (h : TagAt w b i N v) (hb : Below B w w') (hlt : b < B) : TagAt w' b i N v := by
  obtain ⟨⟨r0, r1, r2, r3, r4, r5⟩, q2, q3⟩ := h
  have c := fun o => hb.cell (p := ⟨b, o, none⟩) hlt
  have f := fun o => hb.frozen (p := ⟨b, o, none⟩) hlt
  exact ⟨⟨(c 0).trans r0, (c 1).trans r1, (c 2).trans r2, (c 3).trans r3, (c 4).trans r4, (c 5).trans r5⟩, (f 2).trans q2, (f 3).trans q3⟩
structure TokD where
  kind : Int
  nm : List UInt8
  al : List AttrD
  em : Bool
  tx : List UInt8
  at' : Int
end Go.Proofs.YtbfalppeifkjdaaGreatDoor
end
section
namespace Go.Proofs.YtbfalppeifkjdaaGreatDoor
open Go.RowKit
theorem kblock_lt {w : World} {a : Addr} {v : Value} (hc : w.cell? a = some v) : a.block < w.heap.size := by
  rcases Nat.lt_or_ge a.block w.heap.size with h' | h'
  · exact h'
  · simp [World.cell?, Array.getElem?_eq_none h'] at hc
theorem AttrsAt.below {w w' : World} {p : Option Addr} {l : List AttrD} (h : AttrsAt w p l) (hb : Below w.heap.size w w') : AttrsAt w' p l := by
  intro i hi
  obtain ⟨a, ha, h0, h1, h2, h3⟩ := h i hi
  exact ⟨a, ha, (hb.cell (kblock_lt h0)).trans h0, (hb.cell (kblock_lt h1)).trans h1, (hb.cell (kblock_lt h2)).trans h2, (hb.cell (kblock_lt h3)).trans h3⟩
def TokensAt (w : World) (p : Option Addr) (l : List TokD) : Prop := ∀ i (h : i < l.length), ∃ a q c, p = some a ∧
  (w.cell? (a.add (i * 6)) = some (.int .i64 l[i].kind) ∧ w.cell? ((a.add (i * 6)).add 1) = some (.string (ofBytes l[i].nm)) ∧ w.cell? ((a.add (i * 6)).add 2) = some (.slice q l[i].al.length c) ∧ w.cell? ((a.add (i * 6)).add 3) = some (.bool l[i].em) ∧ w.cell? ((a.add (i * 6)).add 4) = some (.string (ofBytes l[i].tx)) ∧ w.cell? ((a.add (i * 6)).add 5) = some (.int .i64 l[i].at')) ∧ AttrsAt w q l[i].al
theorem TokensAt.below {w w' : World} {p : Option Addr} {l : List TokD} (h : TokensAt w p l) (hb : Below w.heap.size w w') : TokensAt w' p l := by
  intro i hi
  obtain ⟨a, q, c, ha, ⟨h0, h1, h2, h3, h4, h5⟩, h6⟩ := h i hi
  exact ⟨a, q, c, ha, ⟨(hb.cell (kblock_lt h0)).trans h0, (hb.cell (kblock_lt h1)).trans h1, (hb.cell (kblock_lt h2)).trans h2, (hb.cell (kblock_lt h3)).trans h3, (hb.cell (kblock_lt h4)).trans h4, (hb.cell (kblock_lt h5)).trans h5⟩, h6.below hb⟩
end Go.Proofs.YtbfalppeifkjdaaGreatDoor
end
section
namespace Go.Proofs.YtbfalppeifkjdaaGreatDoor
open Go.RowKit
inductive NodeD where
  | mk (kind : Int) (sp nm : ByteArray) (al : List AttrD) (kids : List NodeD) (tx : ByteArray) (at' : Int)
def NodeD.kind : NodeD → Int | .mk k _ _ _ _ _ _ => k
def NodeD.sp : NodeD → ByteArray | .mk _ s _ _ _ _ _ => s
def NodeD.nm : NodeD → ByteArray | .mk _ _ n _ _ _ _ => n
def NodeD.al : NodeD → List AttrD | .mk _ _ _ a _ _ _ => a
def NodeD.tx : NodeD → ByteArray | .mk _ _ _ _ _ t _ => t
def NodeD.at' : NodeD → Int | .mk _ _ _ _ _ _ a => a
mutual
def NodeIs (w : World) : NodeD → Value → Prop
  | .mk kind sp nm al kids tx at', v => ∃ pa ca pk ck, v = .agg #[.int .i64 kind, .string sp, .string nm, .slice pa al.length ca, .slice pk kids.length ck, .string tx, .int .i64 at'] ∧ AttrsAt w pa al ∧ KidsAt w pk 0 kids
def KidsAt (w : World) (p : Option Addr) (i : Nat) : List NodeD → Prop
  | [] => True
  | k :: r => (∃ a v0 v1 v2 v3 v4 v5 v6, p = some a ∧ (w.cell? (a.add (i * 7)) = some v0 ∧ w.cell? ((a.add (i * 7)).add 1) = some v1 ∧ w.cell? ((a.add (i * 7)).add 2) = some v2 ∧ w.cell? ((a.add (i * 7)).add 3) = some v3 ∧ w.cell? ((a.add (i * 7)).add 4) = some v4 ∧ w.cell? ((a.add (i * 7)).add 5) = some v5 ∧ w.cell? ((a.add (i * 7)).add 6) = some v6) ∧ NodeIs w k (.agg #[v0, v1, v2, v3, v4, v5, v6])) ∧ KidsAt w p (i + 1) r
end
mutual
theorem NodeIs.below {w w' : World} (hb : Below w.heap.size w w') : ∀ (n : NodeD) (v : Value), NodeIs w n v → NodeIs w' n v
  | .mk kind sp nm al kids tx at', v, h => by
    rw [NodeIs] at h ⊢
    obtain ⟨pa, ca, pk, ck, rfl, ha, hk⟩ := h
    exact ⟨pa, ca, pk, ck, rfl, ha.below hb, KidsAt.below hb kids pk 0 hk⟩
theorem KidsAt.below {w w' : World} (hb : Below w.heap.size w w') : ∀ (l : List NodeD) (p : Option Addr) (i : Nat), KidsAt w p i l → KidsAt w' p i l
  | [], p, i, _ => by rw [KidsAt]; trivial
  | k :: r, p, i, h => by
    rw [KidsAt] at h ⊢
    obtain ⟨⟨a, v0, v1, v2, v3, v4, v5, v6, hp, ⟨h0, h1, h2, h3, h4, h5, h6⟩, hn⟩, hr⟩ := h
    exact ⟨⟨a, v0, v1, v2, v3, v4, v5, v6, hp, ⟨(hb.cell (kblock_lt h0)).trans h0, (hb.cell (kblock_lt h1)).trans h1, (hb.cell (kblock_lt h2)).trans h2, (hb.cell (kblock_lt h3)).trans h3, (hb.cell (kblock_lt h4)).trans h4, (hb.cell (kblock_lt h5)).trans h5, (hb.cell (kblock_lt h6)).trans h6⟩, NodeIs.below hb k _ hn⟩, KidsAt.below hb r p (i + 1) hr⟩
end
theorem KidsAt.get {w : World} {p : Option Addr} : ∀ (l : List NodeD) (j : Nat), KidsAt w p j l → ∀ i (h : i < l.length), ∃ a v0 v1 v2 v3 v4 v5 v6, p = some a ∧ (w.cell? (a.add ((j + i) * 7)) = some v0 ∧ w.cell? ((a.add ((j + i) * 7)).add 1) = some v1 ∧ w.cell? ((a.add ((j + i) * 7)).add 2) = some v2 ∧ w.cell? ((a.add ((j + i) * 7)).add 3) = some v3 ∧ w.cell? ((a.add ((j + i) * 7)).add 4) = some v4 ∧ w.cell? ((a.add ((j + i) * 7)).add 5) = some v5 ∧ w.cell? ((a.add ((j + i) * 7)).add 6) = some v6) ∧ NodeIs w l[i] (.agg #[v0, v1, v2, v3, v4, v5, v6])
  | [], _, _, i, h => absurd h (Nat.not_lt_zero _)
  | k :: r, j, hk, 0, _ => by
    rw [KidsAt] at hk
    exact hk.1
  | k :: r, j, hk, i + 1, h => by
    rw [KidsAt] at hk
    have := KidsAt.get r (j + 1) hk.2 i (by simpa using h)
    rw [show j + 1 + i = j + (i + 1) by omega] at this
    exact this
mutual
def NodeD.depth : NodeD → Nat
  | .mk kind _ _ _ kids _ _ => if kind = 1 then 0 else depths kids 0 + 1
def depths : List NodeD → Nat → Nat
  | [], m => m
  | k :: r, m => depths r (max m k.depth)
end
mutual
def NodeD.text : NodeD → ByteArray
  | .mk kind _ _ _ kids tx _ => if kind = 1 then tx else texts kids
def texts : List NodeD → ByteArray
  | [] => ⟨#[]⟩
  | k :: r => k.text ++ texts r
end
end Go.Proofs.YtbfalppeifkjdaaGreatDoor
end
section
namespace Go.Proofs.YtbfalppeifkjdaaGreatDoor
open Go.RowKit
structure Keep (p : Nat) (w w' : World) : Prop where
  os : w'.os = w.os
  tape : w'.tape = w.tape
  output : w'.output = w.output
  size : w.heap.size ≤ w'.heap.size
  block : ∀ k, k < w.heap.size → k ≠ p → w'.heap[k]? = w.heap[k]?
theorem Keep.refl (p : Nat) (w : World) : Keep p w w := ⟨rfl, rfl, rfl, Nat.le_refl _, fun _ _ _ => rfl⟩
theorem Keep.trans {p : Nat} {a b c : World} (h : Keep p a b) (k : Keep p b c) : Keep p a c :=
  ⟨k.os.trans h.os, k.tape.trans h.tape, k.output.trans h.output, Nat.le_trans h.size k.size, fun i hi hp => (k.block i (Nat.lt_of_lt_of_le hi h.size) hp).trans (h.block i hi hp)⟩
theorem Keep.of {p : Nat} {w w' : World} (h : Below w.heap.size w w') : Keep p w w' := ⟨h.os, h.tape, h.output, h.size, fun k hk _ => h.block k hk⟩
theorem Keep.more {p : Nat} {a b c : World} (h : Keep p a b) (k : Below b.heap.size b c) : Keep p a c := h.trans (Keep.of k)
theorem Keep.set {p : Nat} {a w : World} (h : Keep p a w) (o : Nat) (u : Value) : Keep p a (w.setCell ⟨p, o, none⟩ u) :=
  h.trans ⟨rfl, rfl, rfl, by simp [World.setCell], fun k _ hp => Below.heap_setCell _ _ _ _ hp⟩
theorem Keep.alloc {p : Nat} {a w : World} (h : Keep p a w) (o : Obj) : Keep p a (w.alloc o) := h.more ((Below.refl _ _).alloc (Nat.le_refl _) o)
theorem Keep.drew {p : Nat} {a w : World} (h : Keep p a w) : Keep p a w.drew := h.trans ⟨rfl, rfl, rfl, Nat.le_refl _, fun _ _ _ => rfl⟩
theorem Keep.drewN {p : Nat} {a w : World} (h : Keep p a w) (n : Nat) : Keep p a (w.drewN n) := h.trans ⟨rfl, rfl, rfl, Nat.le_refl _, fun _ _ _ => rfl⟩
theorem Keep.own {p : Nat} {a w : World} (h : Keep p a w) {q : Addr} (hq : a.heap.size ≤ q.block) (u : Value) : Keep p a (w.setCell q u) :=
  ⟨h.os, h.tape, h.output, by have := h.size; simp [World.setCell]; exact this, fun k hk hp => (Below.heap_setCell _ _ _ _ (by omega)).trans (h.block k hk hp)⟩
theorem Keep.grown {p : Nat} {a w w' : World} {row : Option Nat} (h : Keep p a w) (hg : w.grownBy w' row) (hr : ∀ k, row = some k → a.heap.size ≤ k) : Keep p a w' :=
  ⟨hg.os.trans h.os, hg.tape.trans h.tape, hg.output.trans h.output, Nat.le_trans h.size hg.size, fun k hk hp => (hg.block k (Nat.lt_of_lt_of_le hk h.size) (fun e => by have := hr k e.symm; omega)).trans (h.block k hk hp)⟩
theorem Keep.below {B p : Nat} {a w w' : World} (h : Keep p w w') (hb : Below B a w) (hp : B ≤ p) (hB : B ≤ w.heap.size) : Below B a w' :=
  hb.trans ⟨h.os, h.tape, h.output, h.size, fun k hk => h.block k (by omega) (by omega)⟩
theorem Keep.cell {p : Nat} {w w' : World} (h : Keep p w w') {a : Addr} (ha : a.block < w.heap.size) (hp : a.block ≠ p) : w'.cell? a = w.cell? a := World.cell?_of_block (w := w) (h.block _ ha hp)
theorem Keep.row {p B : Nat} {e : TypeId} {k n : Nat} {v : Value} {xs : List Value} {w w' : World} (h : Keep p w w') (hr : w.ownsRow B e k v n xs) (hp : p < B) : w'.ownsRow B e k v n xs := by
  obtain ⟨h1, h2⟩ := hr
  refine ⟨h1, ?_⟩
  rcases h2 with h2 | ⟨g, cap, cur, hv, hg, hh, r⟩
  · exact .inl h2
  · exact .inr ⟨g, cap, cur, hv, hg, (h.block g (Array.getElem?_eq_some_iff.1 hh).1 (by omega)).trans hh, r⟩
def Blk (w : World) (b : Nat) (cs : Array Value) (T : TypeId) : Prop := w.heap[b]? = some (.cells cs T (0, 0))
theorem Blk.lt {w : World} {b : Nat} {cs : Array Value} {T : TypeId} (h : Blk w b cs T) : b < w.heap.size := (Array.getElem?_eq_some_iff.1 h).1
theorem Blk.cell {w : World} {b : Nat} {cs : Array Value} {T : TypeId} (h : Blk w b cs T) (o : Nat) : w.cell? ⟨b, o, none⟩ = cs[o]? := cell_of_row w b o _ _ _ h
theorem Blk.fr {w : World} {b : Nat} {cs : Array Value} {T : TypeId} (h : Blk w b cs T) (o : Nat) : w.frozen? ⟨b, o, none⟩ = false := frozen_of_row w b o _ _ h
theorem Blk.keep {w w' : World} {b p : Nat} {cs : Array Value} {T : TypeId} (h : Blk w b cs T) (k : Keep p w w') (hb : b ≠ p) : Blk w' b cs T := (k.block b h.lt hb).trans h
theorem Blk.more {w w' : World} {b : Nat} {cs : Array Value} {T : TypeId} (h : Blk w b cs T) (k : Below w.heap.size w w') : Blk w' b cs T := (k.block b h.lt).trans h
theorem Blk.own {w : World} {b : Nat} {cs : Array Value} {T : TypeId} (h : Blk w b cs T) {q : Addr} (hq : q.block ≠ b) (u : Value) : Blk (w.setCell q u) b cs T := (Below.heap_setCell w q u b (fun e => hq e.symm)).trans h
theorem Blk.new (w : World) (cs : Array Value) (T : TypeId) : Blk (w.alloc (.cells cs T)) w.heap.size cs T := heap_alloc_new w _
end Go.Proofs.YtbfalppeifkjdaaGreatDoor
end
section
namespace Go.Proofs.YtbfalppeifkjdaaGreatDoor
open Go.RowKit
def holes (w : World) (L : List Nat) : World := { w with heap := w.heap.mapIdx fun k o => if k ∈ L then .cells #[] 0 (0, 0) else o }
theorem holes_size (w : World) (L : List Nat) : (holes w L).heap.size = w.heap.size := by simp [holes]
theorem holes_ne (w : World) (L : List Nat) (k : Nat) (h : k ∉ L) : (holes w L).heap[k]? = w.heap[k]? := by
  simp [holes, Array.getElem?_mapIdx, h]
theorem holes_in (w : World) (L : List Nat) (k : Nat) (h : k ∈ L) (hk : k < w.heap.size) : (holes w L).heap[k]? = some (.cells #[] 0 (0, 0)) := by
  simp [holes, h, hk]
theorem holes_cell {w : World} {L : List Nat} {a : Addr} {v : Value} (h : (holes w L).cell? a = some v) : w.cell? a = some v ∧ a.block ∉ L ∧ a.block < w.heap.size := by
  have hlt := kblock_lt h
  rw [holes_size] at hlt
  have hne : a.block ∉ L := by
    intro e
    unfold World.cell? at h
    rw [holes_in w L _ e hlt] at h
    simp at h
  exact ⟨by rw [← World.cell?_of_block (holes_ne w L a.block hne)]; exact h, hne, hlt⟩
theorem holes_out {w : World} {L : List Nat} {a : Addr} (h : a.block ∉ L) : (holes w L).cell? a = w.cell? a := World.cell?_of_block (holes_ne w L a.block h)
def Goes (w : World) (L : List Nat) (w' : World) (L' : List Nat) : Prop := ∀ k, k < w.heap.size → k ∉ L → k ∉ L' ∧ w'.heap[k]? = w.heap[k]?
theorem Goes.refl (w : World) (L : List Nat) : Goes w L w L := fun _ _ h => ⟨h, rfl⟩
theorem Goes.trans {w w' w'' : World} {L L' L'' : List Nat} (h : Goes w L w' L') (h' : Goes w' L' w'' L'') (hz : w.heap.size ≤ w'.heap.size) : Goes w L w'' L'' := fun k hk hn => by
  obtain ⟨a, b⟩ := h k hk hn
  obtain ⟨c, d⟩ := h' k (by omega) a
  exact ⟨c, d.trans b⟩
theorem Goes.cell {w w' : World} {L L' : List Nat} (h : Goes w L w' L') (a : Addr) (v : Value) (hc : (holes w L).cell? a = some v) : (holes w' L').cell? a = some v := by
  obtain ⟨h1, h2, h3⟩ := holes_cell hc
  obtain ⟨h4, h5⟩ := h _ h3 h2
  rw [holes_out h4, World.cell?_of_block h5]
  exact h1
theorem Goes.below {w w' : World} {L : List Nat} (h : Below w.heap.size w w') : Goes w L w' L := fun k hk hn => ⟨hn, h.block k hk⟩
theorem Goes.less {w : World} {L L' : List Nat} (h : ∀ k, k ∈ L' → k ∈ L) : Goes w L w L' := fun k _ hn => ⟨fun e => hn (h k e), rfl⟩
theorem Goes.more {w : World} {L L' : List Nat} (h : ∀ k, k ∈ L' → k ∈ L ∨ w.heap.size ≤ k) : Goes w L w L' := fun k hk hn => ⟨fun e => (h k e).elim hn (fun x => by omega), rfl⟩
theorem Goes.grown {w w' : World} {L : List Nat} {row : Option Nat} (h : w.grownBy w' row) (hr : ∀ k, row = some k → k ∈ L) : Goes w L w' L := fun k hk hn => ⟨hn, h.block k hk (fun e => hn (hr k e.symm))⟩
theorem Goes.set {w : World} {L : List Nat} {a : Addr} (h : a.block ∈ L) (u : Value) : Goes w L (w.setCell a u) L := fun k _ hn => ⟨hn, Below.heap_setCell w a u k (fun e => hn (e ▸ h))⟩
theorem Goes.keep {w w' : World} {p : Nat} {L : List Nat} (h : Keep p w w') (hp : p ∈ L) : Goes w L w' L := fun k hk hn => ⟨hn, h.block k hk (fun e => hn (e ▸ hp))⟩
theorem AttrsAt.mono {w w' : World} (hm : ∀ a v, w.cell? a = some v → w'.cell? a = some v) {p : Option Addr} {l : List AttrD} (h : AttrsAt w p l) : AttrsAt w' p l := by
  intro i hi
  obtain ⟨a, ha, h0, h1, h2, h3⟩ := h i hi
  exact ⟨a, ha, hm _ _ h0, hm _ _ h1, hm _ _ h2, hm _ _ h3⟩
mutual
theorem NodeIs.mono {w w' : World} (hm : ∀ a v, w.cell? a = some v → w'.cell? a = some v) : ∀ (n : NodeD) (v : Value), NodeIs w n v → NodeIs w' n v
  | .mk kind sp nm al kids tx at', v, h => by
    rw [NodeIs] at h ⊢
    obtain ⟨pa, ca, pk, ck, rfl, ha, hk⟩ := h
    exact ⟨pa, ca, pk, ck, rfl, ha.mono hm, KidsAt.mono hm kids pk 0 hk⟩
theorem KidsAt.mono {w w' : World} (hm : ∀ a v, w.cell? a = some v → w'.cell? a = some v) : ∀ (l : List NodeD) (p : Option Addr) (i : Nat), KidsAt w p i l → KidsAt w' p i l
  | [], p, i, _ => by rw [KidsAt]; trivial
  | k :: r, p, i, h => by
    rw [KidsAt] at h ⊢
    obtain ⟨⟨a, v0, v1, v2, v3, v4, v5, v6, hp, ⟨h0, h1, h2, h3, h4, h5, h6⟩, hn⟩, hr⟩ := h
    exact ⟨⟨a, v0, v1, v2, v3, v4, v5, v6, hp, ⟨hm _ _ h0, hm _ _ h1, hm _ _ h2, hm _ _ h3, hm _ _ h4, hm _ _ h5, hm _ _ h6⟩, NodeIs.mono hm k _ hn⟩, KidsAt.mono hm r p (i + 1) hr⟩
end
theorem NodeIs.go {w w' : World} {L L' : List Nat} {n : NodeD} {v : Value} (h : NodeIs (holes w L) n v) (hg : Goes w L w' L') : NodeIs (holes w' L') n v := NodeIs.mono (fun a u => hg.cell a u) n v h
theorem AttrsAt.go {w w' : World} {L L' : List Nat} {p : Option Addr} {l : List AttrD} (h : AttrsAt (holes w L) p l) (hg : Goes w L w' L') : AttrsAt (holes w' L') p l := h.mono (fun a u => hg.cell a u)
theorem NodeIs.full {w : World} {L : List Nat} {n : NodeD} {v : Value} (h : NodeIs (holes w L) n v) : NodeIs w n v := NodeIs.mono (fun _ _ hc => (holes_cell hc).1) n v h
def KRow (wc : World) : List NodeD → List Value → Prop
  | [], xs => xs = []
  | k :: r, xs => ∃ v0 v1 v2 v3 v4 v5 v6 ys, xs = v0 :: v1 :: v2 :: v3 :: v4 :: v5 :: v6 :: ys ∧ NodeIs wc k (.agg #[v0, v1, v2, v3, v4, v5, v6]) ∧ KRow wc r ys
theorem KRow.go {w w' : World} {L L' : List Nat} (hg : Goes w L w' L') : ∀ (l : List NodeD) (xs : List Value), KRow (holes w L) l xs → KRow (holes w' L') l xs
  | [], _, h => h
  | k :: r, xs, h => by
    obtain ⟨v0, v1, v2, v3, v4, v5, v6, ys, e, hn, hr⟩ := h
    exact ⟨v0, v1, v2, v3, v4, v5, v6, ys, e, hn.go hg, KRow.go hg r ys hr⟩
theorem KRow.len {wc : World} : ∀ (l : List NodeD) (xs : List Value), KRow wc l xs → xs.length = l.length * 7
  | [], xs, h => by rw [KRow] at h; subst h; rfl
  | k :: r, xs, h => by
    obtain ⟨v0, v1, v2, v3, v4, v5, v6, ys, rfl, _, hr⟩ := h
    have := KRow.len r ys hr
    simp only [List.length_cons]
    omega
theorem KRow.snoc {wc : World} {k : NodeD} {v0 v1 v2 v3 v4 v5 v6 : Value} (hk : NodeIs wc k (.agg #[v0, v1, v2, v3, v4, v5, v6])) : ∀ (l : List NodeD) (xs : List Value), KRow wc l xs → KRow wc (l ++ [k]) (xs ++ [v0, v1, v2, v3, v4, v5, v6])
  | [], xs, h => by
    rw [KRow] at h
    subst h
    exact ⟨v0, v1, v2, v3, v4, v5, v6, [], rfl, hk, rfl⟩
  | x :: r, xs, h => by
    obtain ⟨u0, u1, u2, u3, u4, u5, u6, ys, rfl, hn, hr⟩ := h
    exact ⟨u0, u1, u2, u3, u4, u5, u6, ys ++ [v0, v1, v2, v3, v4, v5, v6], rfl, hn, KRow.snoc hk r ys hr⟩
theorem KRow.last {wc : World} {k : NodeD} : ∀ (l : List NodeD) (xs : List Value), KRow wc (l ++ [k]) xs → ∃ ys v0 v1 v2 v3 v4 v5 v6, xs = ys ++ [v0, v1, v2, v3, v4, v5, v6] ∧ KRow wc l ys ∧ NodeIs wc k (.agg #[v0, v1, v2, v3, v4, v5, v6])
  | [], xs, h => by
    obtain ⟨v0, v1, v2, v3, v4, v5, v6, ys, rfl, hn, hr⟩ := h
    rw [KRow] at hr
    subst hr
    exact ⟨[], v0, v1, v2, v3, v4, v5, v6, rfl, rfl, hn⟩
  | x :: r, xs, h => by
    obtain ⟨u0, u1, u2, u3, u4, u5, u6, ys, rfl, hn, hr⟩ := h
    obtain ⟨zs, v0, v1, v2, v3, v4, v5, v6, rfl, hr', hk⟩ := KRow.last r ys hr
    exact ⟨u0 :: u1 :: u2 :: u3 :: u4 :: u5 :: u6 :: zs, v0, v1, v2, v3, v4, v5, v6, rfl, ⟨u0, u1, u2, u3, u4, u5, u6, zs, rfl, hn, hr'⟩, hk⟩
end Go.Proofs.YtbfalppeifkjdaaGreatDoor
end
section
namespace Go.Proofs.YtbfalppeifkjdaaGreatDoor
open Go.RowKit
def sameA : List FeedD → List FeedD → Bool
  | [], _ => true
  | _ :: _, [] => true
  | f :: l, g :: m => sameB f g && sameA l m
theorem sameA_iff : ∀ l m : List FeedD, l.length = m.length → (sameA l m = true ↔ l = m)
  | [], [], _ => by simp [sameA]
  | f :: l, g :: m, h => by
    rw [sameA, Bool.and_eq_true, sameB_iff, sameA_iff l m (by simpa using h)]
    simp
def eqA (l m : List FeedD) : Bool := decide (l.length = m.length) && sameA l m
theorem eqA_iff (l m : List FeedD) : eqA l m = true ↔ l = m := by
  unfold eqA
  rw [Bool.and_eq_true, decide_eq_true_iff]
  constructor
  · rintro ⟨h, k⟩
    exact (sameA_iff l m h).1 k
  · rintro rfl
    exact ⟨rfl, (sameA_iff l l rfl).2 rfl⟩
set_option maxRecDepth 100000 in
set_option maxHeartbeats 16000000 in
theorem mref_EqualA (l m : List FeedD) (p q : Option Addr) (c d : Nat) (w : World) (hl : FeedsAt w p l) (hm : FeedsAt w q m) (hs : ∀ f ∈ l, f.path.length ≤ 100000000 ∧ f.ents.length ≤ 100000000) (ht : ∀ g ∈ m, g.path.length ≤ 100000000) (hn : l.length ≤ 100000000) : Calls Tryz.prog 21 #[.agg #[.slice p l.length c], .agg #[.slice q m.length d]] w fun e w' => e = .returned (.bool (eqA l m)) ∧ Below w.heap.size w w' := by
  obtain ⟨W2, hW2⟩ : ∃ W2, W2 = (w.alloc (.cells #[.slice p l.length c] 46)).alloc (.cells #[.slice q m.length d] 46) := ⟨_, rfl⟩
  have b2 : Below w.heap.size w W2 := by rw [hW2]; exact ((Below.refl _ _).alloc (Nat.le_refl _) _).alloc (by simp) _
  have e0 : W2.cell? ⟨w.heap.size, 0, none⟩ = some (.slice p l.length c) := by
    rw [hW2]
    exact mcell ((Below.refl _ _).alloc (Nat.le_refl _) _) (cell_of_row _ _ 0 _ _ _ (heap_alloc_new w (.cells #[.slice p l.length c] 46)))
  have f0 : W2.cell? ⟨w.heap.size + 1, 0, none⟩ = some (.slice q m.length d) := by
    rw [hW2]
    have h := cell_of_row _ _ 0 _ _ _ (heap_alloc_new (w.alloc (.cells #[.slice p l.length c] 46)) (.cells #[.slice q m.length d] 46))
    rw [World.size_alloc] at h
    exact h
  have HL := Lib.hid (hl.below b2)
  have HM := Lib.hid (hm.below b2)
  have HB := Lib.hid b2
  have HS := Lib.hid hs
  have HT := Lib.hid ht
  have hnz : (l.length : Int) ≤ 100000000 := by omega
  obtain ⟨R, hR⟩ : ∃ R, eqA l m = R := ⟨_, rfl⟩
  rw [hR]
  unfold eqA at hR
  clear hl hm hs ht b2
  go_enter Tryz.func21, Tryz.ntmps21
  go_upto_region 1 with fail
  simp only [← hW2]
  clear hW2
  by_cases hk : l.length = m.length
  case neg =>
    have hkz : ¬ (l.length : Int) = (m.length : Int) := by omega
    go_wp2
    go_ret
    exact ⟨mretB (by rw [← hR, decide_eq_false hk]; rfl), HB.out⟩
  have hkz : (l.length : Int) = (m.length : Int) := by omega
  rw [decide_eq_true hk, Bool.true_and] at hR
  have HRE := Lib.hid (show R = sameA (l.drop 0) (m.drop 0) from hR.symm)
  have HK := Lib.hid hk
  rw [← hk] at f0
  clear hR hk
  have HE0 := Lib.hid e0
  have HF0 := Lib.hid f0
  go_wp2
  go_loopw [5] (fun z wr => ∃ i : Nat, i ≤ l.length ∧ z = .int .i64 (i : Int) ∧ R = sameA (l.drop i) (m.drop i) ∧ Below W2.heap.size W2 wr) (fun z _ => l.length - (RowKit.intOf z).toNat)
  case atStart => exact ⟨0, Nat.zero_le _, rfl, HRE.out, Below.refl _ _⟩
  case round =>
    clear HRE
    obtain ⟨i, hi, rfl, hR, hb⟩ := hrel
    obtain ⟨wp, rfl⟩ : ∃ wp, wp = wr := ⟨_, rfl⟩
    have g0 := mcell hb e0
    have k0 := mcell hb f0
    clear e0 f0
    by_cases hlt : i < l.length
    · have hiz : (i : Int) < (l.length : Int) := by omega
      have hlt2 : i < m.length := by have := HK.out; omega
      obtain ⟨a, p1, c1, q1, d1, rfl, ⟨a0, a1, a2, a3, a4, a5⟩, hp1, he1⟩ := HL.out.below hb i hlt
      obtain ⟨b, p2, c2, q2, d2, rfl, ⟨b0, b1, b2, b3, b4, b5⟩, hp2, he2⟩ := HM.out.below hb i hlt2
      rw [List.drop_eq_getElem_cons hlt, List.drop_eq_getElem_cons hlt2, sameA] at hR
      obtain ⟨x, hx⟩ : ∃ x, l[i] = x := ⟨_, rfl⟩
      obtain ⟨y, hy⟩ : ∃ y, m[i] = y := ⟨_, rfl⟩
      have hxs := HS.out x (by rw [← hx]; exact List.getElem_mem _)
      have hys := HT.out y (by rw [← hy]; exact List.getElem_mem _)
      rw [hx] at a0 a1 a2 a3 a4 a5 hp1 he1 hR
      rw [hy] at b0 b1 b2 b3 b4 b5 hp2 he2 hR
      clear hx hy
      obtain ⟨aa, haa⟩ : ∃ aa, a.add (i * 6) = aa := ⟨_, rfl⟩
      obtain ⟨bb, hbb⟩ : ∃ bb, b.add (i * 6) = bb := ⟨_, rfl⟩
      rw [haa] at a0 a1 a2 a3 a4 a5
      rw [hbb] at b0 b1 b2 b3 b4 b5
      simp only [Addr.add, Nat.reduceEqDiff, ↓reduceIte] at a1 a2 a3 a4 a5 b1 b2 b3 b4 b5
      have cS := mref_Same x y _ _ wp.drew ⟨p1, c1, q1, d1, rfl, hp1, he1⟩ ⟨p2, c2, q2, d2, rfl, hp2, he2⟩ hxs.1 hys hxs.2
      obtain ⟨r, hr⟩ : ∃ r, sameB x y = r := ⟨_, rfl⟩
      rw [hr] at cS hR
      have HRR := Lib.hid hR
      have HBB := Lib.hid hb
      have S0 : wp.drew.cell? ⟨w.heap.size, 0, none⟩ = some (.slice (some a) l.length c) ∧ wp.drew.cell? ⟨w.heap.size + 1, 0, none⟩ = some (.slice (some b) l.length d) ∧ wp.drew.cell? aa = some (.slice p1 x.path.length c1) ∧ wp.drew.cell? { block := aa.block, off := aa.off + 1 } = some (.string x.id) ∧ wp.drew.cell? { block := aa.block, off := aa.off + 2 } = some (.string x.title) ∧ wp.drew.cell? { block := aa.block, off := aa.off + 3 } = some (.string x.link) ∧ wp.drew.cell? { block := aa.block, off := aa.off + 4 } = some (.int .i64 x.upd) ∧ wp.drew.cell? { block := aa.block, off := aa.off + 5 } = some (.slice q1 x.ents.length d1) ∧ wp.drew.cell? bb = some (.slice p2 y.path.length c2) ∧ wp.drew.cell? { block := bb.block, off := bb.off + 1 } = some (.string y.id) ∧ wp.drew.cell? { block := bb.block, off := bb.off + 2 } = some (.string y.title) ∧ wp.drew.cell? { block := bb.block, off := bb.off + 3 } = some (.string y.link) ∧ wp.drew.cell? { block := bb.block, off := bb.off + 4 } = some (.int .i64 y.upd) ∧ wp.drew.cell? { block := bb.block, off := bb.off + 5 } = some (.slice q2 y.ents.length d2) := ⟨g0, k0, a0, a1, a2, a3, a4, a5, b0, b1, b2, b3, b4, b5⟩
      have hSB : ∀ u1 u2 : World, Below u1.heap.size u1 u2 → (u1.cell? ⟨w.heap.size, 0, none⟩ = some (.slice (some a) l.length c) ∧ u1.cell? ⟨w.heap.size + 1, 0, none⟩ = some (.slice (some b) l.length d) ∧ u1.cell? aa = some (.slice p1 x.path.length c1) ∧ u1.cell? { block := aa.block, off := aa.off + 1 } = some (.string x.id) ∧ u1.cell? { block := aa.block, off := aa.off + 2 } = some (.string x.title) ∧ u1.cell? { block := aa.block, off := aa.off + 3 } = some (.string x.link) ∧ u1.cell? { block := aa.block, off := aa.off + 4 } = some (.int .i64 x.upd) ∧ u1.cell? { block := aa.block, off := aa.off + 5 } = some (.slice q1 x.ents.length d1) ∧ u1.cell? bb = some (.slice p2 y.path.length c2) ∧ u1.cell? { block := bb.block, off := bb.off + 1 } = some (.string y.id) ∧ u1.cell? { block := bb.block, off := bb.off + 2 } = some (.string y.title) ∧ u1.cell? { block := bb.block, off := bb.off + 3 } = some (.string y.link) ∧ u1.cell? { block := bb.block, off := bb.off + 4 } = some (.int .i64 y.upd) ∧ u1.cell? { block := bb.block, off := bb.off + 5 } = some (.slice q2 y.ents.length d2)) → (u2.cell? ⟨w.heap.size, 0, none⟩ = some (.slice (some a) l.length c) ∧ u2.cell? ⟨w.heap.size + 1, 0, none⟩ = some (.slice (some b) l.length d) ∧ u2.cell? aa = some (.slice p1 x.path.length c1) ∧ u2.cell? { block := aa.block, off := aa.off + 1 } = some (.string x.id) ∧ u2.cell? { block := aa.block, off := aa.off + 2 } = some (.string x.title) ∧ u2.cell? { block := aa.block, off := aa.off + 3 } = some (.string x.link) ∧ u2.cell? { block := aa.block, off := aa.off + 4 } = some (.int .i64 x.upd) ∧ u2.cell? { block := aa.block, off := aa.off + 5 } = some (.slice q1 x.ents.length d1) ∧ u2.cell? bb = some (.slice p2 y.path.length c2) ∧ u2.cell? { block := bb.block, off := bb.off + 1 } = some (.string y.id) ∧ u2.cell? { block := bb.block, off := bb.off + 2 } = some (.string y.title) ∧ u2.cell? { block := bb.block, off := bb.off + 3 } = some (.string y.link) ∧ u2.cell? { block := bb.block, off := bb.off + 4 } = some (.int .i64 y.upd) ∧ u2.cell? { block := bb.block, off := bb.off + 5 } = some (.slice q2 y.ents.length d2)) := fun u1 u2 hb h => by
        obtain ⟨z0, z1, z2, z3, z4, z5, z6, z7, z8, z9, z10, z11, z12, z13⟩ := h
        exact ⟨mcell hb z0, mcell hb z1, mcell hb z2, mcell hb z3, mcell hb z4, mcell hb z5, mcell hb z6, mcell hb z7, mcell hb z8, mcell hb z9, mcell hb z10, mcell hb z11, mcell hb z12, mcell hb z13⟩
      clear hR hb hr hxs hys hp1 he1 hp2 he2 a0 a1 a2 a3 a4 a5 b0 b1 b2 b3 b4 b5 k0
      cases r
      · go_wp2
        (go_region_held3 (fun w' => w'.cell? ⟨w.heap.size, 0, none⟩ = some (.slice (some a) l.length c) ∧ w'.cell? ⟨w.heap.size + 1, 0, none⟩ = some (.slice (some b) l.length d) ∧ w'.cell? aa = some (.slice p1 x.path.length c1) ∧ w'.cell? { block := aa.block, off := aa.off + 1 } = some (.string x.id) ∧ w'.cell? { block := aa.block, off := aa.off + 2 } = some (.string x.title) ∧ w'.cell? { block := aa.block, off := aa.off + 3 } = some (.string x.link) ∧ w'.cell? { block := aa.block, off := aa.off + 4 } = some (.int .i64 x.upd) ∧ w'.cell? { block := aa.block, off := aa.off + 5 } = some (.slice q1 x.ents.length d1) ∧ w'.cell? bb = some (.slice p2 y.path.length c2) ∧ w'.cell? { block := bb.block, off := bb.off + 1 } = some (.string y.id) ∧ w'.cell? { block := bb.block, off := bb.off + 2 } = some (.string y.title) ∧ w'.cell? { block := bb.block, off := bb.off + 3 } = some (.string y.link) ∧ w'.cell? { block := bb.block, off := bb.off + 4 } = some (.int .i64 y.upd) ∧ w'.cell? { block := bb.block, off := bb.off + 5 } = some (.slice q2 y.ents.length d2)) (first | with_reducible exact S0 | with_reducible exact S6) (first | (go_at_call 17; with_reducible refine cS.mono ?_; rintro e w6 ⟨rfl, b6⟩; have S6 := hSB _ _ b6 S0)))
        go_wp2
        go_ret
        exact ⟨mretB (by rw [HRR.out]; rfl), HB.out.trans ((HBB.out.trans (((Below.refl wp.heap.size wp).drew.trans b6).mono HBB.out.size)).mono HB.out.size)⟩
      · go_wp2
        (go_region_held3 (fun w' => w'.cell? ⟨w.heap.size, 0, none⟩ = some (.slice (some a) l.length c) ∧ w'.cell? ⟨w.heap.size + 1, 0, none⟩ = some (.slice (some b) l.length d) ∧ w'.cell? aa = some (.slice p1 x.path.length c1) ∧ w'.cell? { block := aa.block, off := aa.off + 1 } = some (.string x.id) ∧ w'.cell? { block := aa.block, off := aa.off + 2 } = some (.string x.title) ∧ w'.cell? { block := aa.block, off := aa.off + 3 } = some (.string x.link) ∧ w'.cell? { block := aa.block, off := aa.off + 4 } = some (.int .i64 x.upd) ∧ w'.cell? { block := aa.block, off := aa.off + 5 } = some (.slice q1 x.ents.length d1) ∧ w'.cell? bb = some (.slice p2 y.path.length c2) ∧ w'.cell? { block := bb.block, off := bb.off + 1 } = some (.string y.id) ∧ w'.cell? { block := bb.block, off := bb.off + 2 } = some (.string y.title) ∧ w'.cell? { block := bb.block, off := bb.off + 3 } = some (.string y.link) ∧ w'.cell? { block := bb.block, off := bb.off + 4 } = some (.int .i64 y.upd) ∧ w'.cell? { block := bb.block, off := bb.off + 5 } = some (.slice q2 y.ents.length d2)) (first | with_reducible exact S0 | with_reducible exact S6) (first | (go_at_call 17; with_reducible refine cS.mono ?_; rintro e w6 ⟨rfl, b6⟩; have S6 := hSB _ _ b6 S0)))
        go_wp2
        go_roundw
        case rel => exact ⟨i + 1, by omega, by go_num, by rw [HRR.out]; rfl, HBB.out.trans (((Below.refl wp.heap.size wp).drew.trans b6).mono HBB.out.size)⟩
        case measure => simp [RowKit.intOf]; omega
    · obtain rfl : i = l.length := by omega
      have hiz : ¬ (l.length : Int) < (l.length : Int) := by omega
      rw [List.drop_length] at hR
      have HBB := Lib.hid hb
      clear hb
      go_wp2
      go_ret
      exact ⟨mretB (by first | rfl | (rw [hR]; rfl)), HB.out.trans (HBB.out.mono HB.out.size)⟩
end Go.Proofs.YtbfalppeifkjdaaGreatDoor
end
