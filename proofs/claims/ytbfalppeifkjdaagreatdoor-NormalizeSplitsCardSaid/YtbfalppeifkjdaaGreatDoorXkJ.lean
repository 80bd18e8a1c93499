/- Packed from the texts TokA JvA JvP JwH JpQ JvW. -/
import Derived.Test.YtbfalppeifkjdaaGreatDoorXkA
import Derived.Test.YtbfalppeifkjdaaGreatDoorXkB
import Derived.Test.YtbfalppeifkjdaaGreatDoorXkD
import Derived.Test.YtbfalppeifkjdaaGreatDoorChecked
import Derived.Lib.Index
import Derived.ProofKit
import Derived.Laws.Rows
import Derived.Lib.FrozenHead2
import Derived.Deep.AppendLies
import Derived.Shelf.Strings.BuilderK
import Derived.KernelRfl
import Derived.Deep.QuietTactic
import Derived.BigQuiet
import Derived.WalkSmall
section
namespace Go.Proofs.YtbfalppeifkjdaaGreatDoor
open Go.RowKit
theorem kstr_ext {a b : ByteArray} (h : a.data.toList = b.data.toList) : a = b := by
  cases a; cases b; simp at h; simp [h]
def spB (c : UInt8) : Bool := isSpaceB (c.toNat : Int)
def qcB (r : Int) : Bool := r == 58 || nameCharB r
def qsB (r : Int) : Bool := r == 58 || nameStartB r
def qnF (s : ByteArray) : Nat → Nat → Bool
  | 0, _ => true
  | f + 1, i => if i < s.size then (if qcB (decP s i).1 then qnF s f (i + (decP s i).2) else false) else true
def qnAt (s : ByteArray) (i : Nat) : Bool := qnF s (s.size - i) i
theorem qnAt_end (s : ByteArray) (i : Nat) (h : s.size ≤ i) : qnAt s i = true := by rw [qnAt, show s.size - i = 0 by omega, qnF]
def isQB (s : ByteArray) : Bool := decide (0 < s.size) && (qsB (decP s 0).1 && qnAt s (decP s 0).2)
theorem isQB_pos (s : ByteArray) (h : 0 < s.size) : isQB s = (qsB (decP s 0).1 && qnAt s (decP s 0).2) := by unfold isQB; rw [decide_eq_true h, Bool.true_and]
def QnRel (s : ByteArray) (k : Nat) : Prop := k = 0 ∨ isQB s = qnAt s k
theorem QnRel.start {s : ByteArray} {r m : Nat} (hk : 0 < s.size) (hd : decP s 0 = (r, m)) (hs : qsB r = false) : isQB s = false := by
  rw [isQB_pos s hk, hd]; simp only; rw [hs]; rfl
theorem QnRel.done {s : ByteArray} {k : Nat} (h : QnRel s k) (hk : k = s.size) : isQB s = decide (0 < k) := by
  rcases Nat.eq_zero_or_pos k with h0 | h0
  · unfold isQB; rw [decide_eq_false (by omega), decide_eq_false (by omega)]; rfl
  · rcases h with rfl | h
    · omega
    · rw [h, qnAt_end s k (by omega)]; simp [h0]
end Go.Proofs.YtbfalppeifkjdaaGreatDoor
end
section
namespace Go.Proofs.YtbfalppeifkjdaaGreatDoor
open Go.RowKit
mutual
inductive ValD where
  | mk (kind : Int) (b : Bool) (n : Int) (s : ByteArray) (items : List ValD) (mems : List MemD) (at' : Int)
inductive MemD where
  | mk (key : ByteArray) (v : ValD) (at' : Int)
end
def ValD.kind : ValD → Int | .mk k _ _ _ _ _ _ => k
def ValD.b : ValD → Bool | .mk _ b _ _ _ _ _ => b
def ValD.n : ValD → Int | .mk _ _ n _ _ _ _ => n
def ValD.s : ValD → ByteArray | .mk _ _ _ s _ _ _ => s
def ValD.items : ValD → List ValD | .mk _ _ _ _ i _ _ => i
def ValD.mems : ValD → List MemD | .mk _ _ _ _ _ m _ => m
def ValD.at' : ValD → Int | .mk _ _ _ _ _ _ a => a
def MemD.key : MemD → ByteArray | .mk k _ _ => k
def MemD.v : MemD → ValD | .mk _ v _ => v
def MemD.at' : MemD → Int | .mk _ _ a => a
mutual
def ValIs (w : World) : ValD → Value → Prop
  | .mk kind b n s items mems at', v => ∃ p c q d, v = .agg #[.int .i64 kind, .bool b, .int .i64 n, .string s, .slice p items.length c, .slice q mems.length d, .int .i64 at'] ∧ ItemsAt w p 0 items ∧ MemsAt w q 0 mems
def ItemsAt (w : World) (p : Option Addr) (i : Nat) : List ValD → Prop
  | [] => True
  | k :: r => (∃ a v0 v1 v2 v3 v4 v5 v6, p = some a ∧ (w.cell? (a.add (i * 7)) = some v0 ∧ w.cell? ((a.add (i * 7)).add 1) = some v1 ∧ w.cell? ((a.add (i * 7)).add 2) = some v2 ∧ w.cell? ((a.add (i * 7)).add 3) = some v3 ∧ w.cell? ((a.add (i * 7)).add 4) = some v4 ∧ w.cell? ((a.add (i * 7)).add 5) = some v5 ∧ w.cell? ((a.add (i * 7)).add 6) = some v6) ∧ ValIs w k (.agg #[v0, v1, v2, v3, v4, v5, v6])) ∧ ItemsAt w p (i + 1) r
def MemsAt (w : World) (p : Option Addr) (i : Nat) : List MemD → Prop
  | [] => True
  | m :: r => MemAt w p i m ∧ MemsAt w p (i + 1) r
def MemAt (w : World) (p : Option Addr) (i : Nat) : MemD → Prop
  | .mk key v at' => ∃ a v0 v1 v2 v3 v4 v5 v6, p = some a ∧ (w.cell? (a.add (i * 9)) = some (.string key) ∧ w.cell? ((a.add (i * 9)).add 1) = some v0 ∧ w.cell? ((a.add (i * 9)).add 2) = some v1 ∧ w.cell? ((a.add (i * 9)).add 3) = some v2 ∧ w.cell? ((a.add (i * 9)).add 4) = some v3 ∧ w.cell? ((a.add (i * 9)).add 5) = some v4 ∧ w.cell? ((a.add (i * 9)).add 6) = some v5 ∧ w.cell? ((a.add (i * 9)).add 7) = some v6 ∧ w.cell? ((a.add (i * 9)).add 8) = some (.int .i64 at')) ∧ ValIs w v (.agg #[v0, v1, v2, v3, v4, v5, v6])
end
theorem val_is (w : World) (n : ValD) (v : Value) : ValIs w n v ↔ ∃ p c q d, v = .agg #[.int .i64 n.kind, .bool n.b, .int .i64 n.n, .string n.s, .slice p n.items.length c, .slice q n.mems.length d, .int .i64 n.at'] ∧ ItemsAt w p 0 n.items ∧ MemsAt w q 0 n.mems := by
  cases n; rw [ValIs]; exact Iff.rfl
theorem mem_at (w : World) (p : Option Addr) (i : Nat) (m : MemD) : MemAt w p i m ↔ ∃ a v0 v1 v2 v3 v4 v5 v6, p = some a ∧ (w.cell? (a.add (i * 9)) = some (.string m.key) ∧ w.cell? ((a.add (i * 9)).add 1) = some v0 ∧ w.cell? ((a.add (i * 9)).add 2) = some v1 ∧ w.cell? ((a.add (i * 9)).add 3) = some v2 ∧ w.cell? ((a.add (i * 9)).add 4) = some v3 ∧ w.cell? ((a.add (i * 9)).add 5) = some v4 ∧ w.cell? ((a.add (i * 9)).add 6) = some v5 ∧ w.cell? ((a.add (i * 9)).add 7) = some v6 ∧ w.cell? ((a.add (i * 9)).add 8) = some (.int .i64 m.at')) ∧ ValIs w m.v (.agg #[v0, v1, v2, v3, v4, v5, v6]) := by
  cases m; rw [MemAt]; exact Iff.rfl
theorem vblock_lt {w : World} {a : Addr} {v : Value} (hc : w.cell? a = some v) : a.block < w.heap.size := by
  rcases Nat.lt_or_ge a.block w.heap.size with h' | h'
  · exact h'
  · simp [World.cell?, Array.getElem?_eq_none h'] at hc
mutual
theorem ValIs.below {w w' : World} (hb : Below w.heap.size w w') : ∀ (n : ValD) (v : Value), ValIs w n v → ValIs w' n v
  | .mk kind b n s items mems at', v, h => by
    rw [ValIs] at h ⊢
    obtain ⟨p, c, q, d, rfl, ha, hk⟩ := h
    exact ⟨p, c, q, d, rfl, ItemsAt.below hb items p 0 ha, MemsAt.below hb mems q 0 hk⟩
theorem ItemsAt.below {w w' : World} (hb : Below w.heap.size w w') : ∀ (l : List ValD) (p : Option Addr) (i : Nat), ItemsAt w p i l → ItemsAt w' p i l
  | [], p, i, _ => by rw [ItemsAt]; trivial
  | k :: r, p, i, h => by
    rw [ItemsAt] at h ⊢
    obtain ⟨⟨a, v0, v1, v2, v3, v4, v5, v6, hp, ⟨h0, h1, h2, h3, h4, h5, h6⟩, hn⟩, hr⟩ := h
    exact ⟨⟨a, v0, v1, v2, v3, v4, v5, v6, hp, ⟨(hb.cell (vblock_lt h0)).trans h0, (hb.cell (vblock_lt h1)).trans h1, (hb.cell (vblock_lt h2)).trans h2, (hb.cell (vblock_lt h3)).trans h3, (hb.cell (vblock_lt h4)).trans h4, (hb.cell (vblock_lt h5)).trans h5, (hb.cell (vblock_lt h6)).trans h6⟩, ValIs.below hb k _ hn⟩, ItemsAt.below hb r p (i + 1) hr⟩
theorem MemsAt.below {w w' : World} (hb : Below w.heap.size w w') : ∀ (l : List MemD) (p : Option Addr) (i : Nat), MemsAt w p i l → MemsAt w' p i l
  | [], p, i, _ => by rw [MemsAt]; trivial
  | m :: r, p, i, h => by
    rw [MemsAt] at h ⊢
    exact ⟨MemAt.below hb m p i h.1, MemsAt.below hb r p (i + 1) h.2⟩
theorem MemAt.below {w w' : World} (hb : Below w.heap.size w w') : ∀ (m : MemD) (p : Option Addr) (i : Nat), MemAt w p i m → MemAt w' p i m
  | .mk key v at', p, i, h => by
    rw [MemAt] at h ⊢
    obtain ⟨a, v0, v1, v2, v3, v4, v5, v6, hp, ⟨h0, h1, h2, h3, h4, h5, h6, h7, h8⟩, hn⟩ := h
    exact ⟨a, v0, v1, v2, v3, v4, v5, v6, hp, ⟨(hb.cell (vblock_lt h0)).trans h0, (hb.cell (vblock_lt h1)).trans h1, (hb.cell (vblock_lt h2)).trans h2, (hb.cell (vblock_lt h3)).trans h3, (hb.cell (vblock_lt h4)).trans h4, (hb.cell (vblock_lt h5)).trans h5, (hb.cell (vblock_lt h6)).trans h6, (hb.cell (vblock_lt h7)).trans h7, (hb.cell (vblock_lt h8)).trans h8⟩, ValIs.below hb v _ hn⟩
end
theorem ItemsAt.get {w : World} {p : Option Addr} : ∀ (l : List ValD) (j : Nat), ItemsAt w p j l → ∀ i (h : i < l.length), ∃ a v0 v1 v2 v3 v4 v5 v6, p = some a ∧ (w.cell? (a.add ((j + i) * 7)) = some v0 ∧ w.cell? ((a.add ((j + i) * 7)).add 1) = some v1 ∧ w.cell? ((a.add ((j + i) * 7)).add 2) = some v2 ∧ w.cell? ((a.add ((j + i) * 7)).add 3) = some v3 ∧ w.cell? ((a.add ((j + i) * 7)).add 4) = some v4 ∧ w.cell? ((a.add ((j + i) * 7)).add 5) = some v5 ∧ w.cell? ((a.add ((j + i) * 7)).add 6) = some v6) ∧ ValIs w l[i] (.agg #[v0, v1, v2, v3, v4, v5, v6])
  | [], _, _, i, h => absurd h (Nat.not_lt_zero _)
  | k :: r, j, hk, 0, _ => by
    rw [ItemsAt] at hk
    exact hk.1
  | k :: r, j, hk, i + 1, h => by
    rw [ItemsAt] at hk
    have := ItemsAt.get r (j + 1) hk.2 i (by simpa using h)
    rw [show j + 1 + i = j + (i + 1) by omega] at this
    exact this
theorem MemsAt.get {w : World} {p : Option Addr} : ∀ (l : List MemD) (j : Nat), MemsAt w p j l → ∀ i (h : i < l.length), ∃ a v0 v1 v2 v3 v4 v5 v6, p = some a ∧ (w.cell? (a.add ((j + i) * 9)) = some (.string l[i].key) ∧ w.cell? ((a.add ((j + i) * 9)).add 1) = some v0 ∧ w.cell? ((a.add ((j + i) * 9)).add 2) = some v1 ∧ w.cell? ((a.add ((j + i) * 9)).add 3) = some v2 ∧ w.cell? ((a.add ((j + i) * 9)).add 4) = some v3 ∧ w.cell? ((a.add ((j + i) * 9)).add 5) = some v4 ∧ w.cell? ((a.add ((j + i) * 9)).add 6) = some v5 ∧ w.cell? ((a.add ((j + i) * 9)).add 7) = some v6 ∧ w.cell? ((a.add ((j + i) * 9)).add 8) = some (.int .i64 l[i].at')) ∧ ValIs w l[i].v (.agg #[v0, v1, v2, v3, v4, v5, v6])
  | [], _, _, i, h => absurd h (Nat.not_lt_zero _)
  | k :: r, j, hk, 0, _ => by
    rw [MemsAt] at hk
    exact (mem_at w p j k).1 hk.1
  | k :: r, j, hk, i + 1, h => by
    rw [MemsAt] at hk
    have := MemsAt.get r (j + 1) hk.2 i (by simpa using h)
    rw [show j + 1 + i = j + (i + 1) by omega] at this
    exact this
mutual
def ValD.depth : ValD → Nat
  | .mk kind _ _ _ items mems _ => (if kind = 4 then vdepths items 0 else if kind = 5 then mdepths mems 0 else 0) + 1
def vdepths : List ValD → Nat → Nat
  | [], m => m
  | k :: r, m => vdepths r (max m k.depth)
def mdepths : List MemD → Nat → Nat
  | [], m => m
  | k :: r, m => mdepths r (max m k.depth)
def MemD.depth : MemD → Nat
  | .mk _ v _ => v.depth
end
theorem vdepth_eq (v : ValD) : v.depth = (if v.kind = 4 then vdepths v.items 0 else if v.kind = 5 then mdepths v.mems 0 else 0) + 1 := by cases v; rw [ValD.depth]; rfl
end Go.Proofs.YtbfalppeifkjdaaGreatDoor
end
section
namespace Go.Proofs.YtbfalppeifkjdaaGreatDoor
open Go.RowKit
def Bj (w : World) (b : Nat) (cs : Array Value) (T : TypeId) : Prop := w.heap[b]? = some (.cells cs T (0, 0))
theorem Bj.lt {w : World} {b : Nat} {cs : Array Value} {T : TypeId} (h : Bj w b cs T) : b < w.heap.size := (Array.getElem?_eq_some_iff.1 h).1
theorem Bj.cell {w : World} {b : Nat} {cs : Array Value} {T : TypeId} (h : Bj w b cs T) (o : Nat) : w.cell? ⟨b, o, none⟩ = cs[o]? := cell_of_row w b o _ _ _ h
theorem Bj.fr {w : World} {b : Nat} {cs : Array Value} {T : TypeId} (h : Bj w b cs T) (o : Nat) : w.frozen? ⟨b, o, none⟩ = false := frozen_of_row w b o _ _ h
theorem Bj.more {w w' : World} {b : Nat} {cs : Array Value} {T : TypeId} (h : Bj w b cs T) (k : Below w.heap.size w w') : Bj w' b cs T := (k.block b h.lt).trans h
theorem Bj.own {w : World} {b : Nat} {cs : Array Value} {T : TypeId} (h : Bj w b cs T) {q : Addr} (hq : q.block ≠ b) (u : Value) : Bj (w.setCell q u) b cs T := (Below.heap_setCell w q u b (fun e => hq e.symm)).trans h
theorem Bj.new (w : World) (cs : Array Value) (T : TypeId) : Bj (w.alloc (.cells cs T)) w.heap.size cs T := heap_alloc_new w _
theorem Bj.shape {w : World} {b : Nat} {cs : Array Value} {T : TypeId} (h : Bj w b cs T) : w.shape? b = some (T, cs.size) := by
  unfold Bj at h
  simp [World.shape?, h]
theorem Bj.set {w : World} {b : Nat} {cs : Array Value} {T : TypeId} (h : Bj w b cs T) (o : Nat) (u : Value) : Bj (w.setCell ⟨b, o, none⟩ u) b (cs.setIfInBounds o u) T := heap_setCell_same w b o _ _ u h
structure Pj (X : Nat → Prop) (w w' : World) : Prop where
  os : w'.os = w.os
  tape : w'.tape = w.tape
  output : w'.output = w.output
  size : w.heap.size ≤ w'.heap.size
  block : ∀ k, k < w.heap.size → ¬ X k → w'.heap[k]? = w.heap[k]?
section
variable {X Y : Nat → Prop} {a b c w w' : World}
theorem Pj.refl (X : Nat → Prop) (w : World) : Pj X w w := ⟨rfl, rfl, rfl, Nat.le_refl _, fun _ _ _ => rfl⟩
theorem Pj.trans (h : Pj X a b) (k : Pj Y b c) (hy : ∀ i, i < a.heap.size → Y i → X i) : Pj X a c :=
  ⟨k.os.trans h.os, k.tape.trans h.tape, k.output.trans h.output, Nat.le_trans h.size k.size, fun i hi hp => (k.block i (Nat.lt_of_lt_of_le hi h.size) (fun y => hp (hy i hi y))).trans (h.block i hi hp)⟩
theorem Pj.mono (h : Pj X a b) (hy : ∀ i, i < a.heap.size → X i → Y i) : Pj Y a b := ⟨h.os, h.tape, h.output, h.size, fun k hk hn => h.block k hk (fun x => hn (hy k hk x))⟩
theorem Pj.of (h : Below w.heap.size w w') : Pj X w w' := ⟨h.os, h.tape, h.output, h.size, fun k hk _ => h.block k hk⟩
theorem Pj.below {B : Nat} (h : Pj X w w') (hb : Below B a w) (hx : ∀ k, X k → B ≤ k) (hB : B ≤ w.heap.size) : Below B a w' :=
  hb.trans ⟨h.os, h.tape, h.output, h.size, fun k hk => h.block k (by omega) (fun x => by have := hx k x; omega)⟩
theorem Pj.set (h : Pj X a w) {q : Addr} (hq : X q.block ∨ a.heap.size ≤ q.block) (u : Value) : Pj X a (w.setCell q u) :=
  ⟨h.os, h.tape, h.output, by have := h.size; simp [World.setCell]; exact this, fun k hk hn => (Below.heap_setCell _ _ _ _ (fun e => by rcases hq with x | x; exact hn (e ▸ x); omega)).trans (h.block k hk hn)⟩
theorem Pj.alloc (h : Pj X a w) (o : Obj) : Pj X a (w.alloc o) := h.trans (Pj.of (X := X) ((Below.refl _ _).alloc (Nat.le_refl _) o)) (fun _ _ x => x)
theorem Pj.more (h : Pj X a b) (k : Below b.heap.size b c) : Pj X a c := h.trans (Pj.of (X := X) k) (fun _ _ x => x)
theorem Pj.grown {row : Option Nat} (h : Pj X a w) (hg : w.grownBy w' row) (hr : ∀ k, row = some k → X k ∨ a.heap.size ≤ k) : Pj X a w' :=
  ⟨hg.os.trans h.os, hg.tape.trans h.tape, hg.output.trans h.output, Nat.le_trans h.size hg.size, fun k hk hn => (hg.block k (Nat.lt_of_lt_of_le hk h.size) (fun e => by rcases hr k e.symm with x | x; exact hn x; omega)).trans (h.block k hk hn)⟩
theorem Pj.blk {n : Nat} {cs : Array Value} {T : TypeId} (h : Pj X w w') (hb : Bj w n cs T) (hn : ¬ X n) : Bj w' n cs T := (h.block n hb.lt hn).trans hb
theorem Pj.cell (h : Pj X w w') {p : Addr} {v : Value} (hc : w.cell? p = some v) (hn : ¬ X p.block) : w'.cell? p = some v := by
  rw [World.cell?_of_block (h.block p.block (vblock_lt hc) hn)]
  exact hc
theorem Pj.drew (h : Pj X a w) : Pj X a w.drew := h.more (Below.refl _ _).drew
end
theorem Pj.row {B : Nat} {e : TypeId} {k n : Nat} {v : Value} {xs : List Value} {X : Nat → Prop} {w w' : World} (h : Pj X w w') (hr : w.ownsRow B e k v n xs) (hX : ∀ b, X b → b < B) : w'.ownsRow B e k v n xs := by
  obtain ⟨h1, h2⟩ := hr
  refine ⟨h1, ?_⟩
  rcases h2 with h2 | ⟨g, cap, cur, hv, hg, hh, r⟩
  · exact .inl h2
  · exact .inr ⟨g, cap, cur, hv, hg, (h.block g (Array.getElem?_eq_some_iff.1 hh).1 (fun x => by have := hX g x; omega)).trans hh, r⟩
theorem Bj.seven {w : World} {b : Nat} {T : TypeId} {v0 v1 v2 v3 v4 v5 v6 : Value} (h : Bj w b #[v0, v1, v2, v3, v4, v5, v6] T) : (w.cell? ⟨b, 0, none⟩ = some v0 ∧ w.cell? ⟨b, 1, none⟩ = some v1 ∧ w.cell? ⟨b, 2, none⟩ = some v2 ∧ w.cell? ⟨b, 3, none⟩ = some v3 ∧ w.cell? ⟨b, 4, none⟩ = some v4 ∧ w.cell? ⟨b, 5, none⟩ = some v5 ∧ w.cell? ⟨b, 6, none⟩ = some v6) ∧ (w.frozen? ⟨b, 0, none⟩ = false ∧ w.frozen? ⟨b, 1, none⟩ = false ∧ w.frozen? ⟨b, 2, none⟩ = false ∧ w.frozen? ⟨b, 3, none⟩ = false ∧ w.frozen? ⟨b, 4, none⟩ = false ∧ w.frozen? ⟨b, 5, none⟩ = false ∧ w.frozen? ⟨b, 6, none⟩ = false) :=
  ⟨⟨h.cell 0, h.cell 1, h.cell 2, h.cell 3, h.cell 4, h.cell 5, h.cell 6⟩, h.fr 0, h.fr 1, h.fr 2, h.fr 3, h.fr 4, h.fr 5, h.fr 6⟩
theorem Bj.nine {w : World} {b : Nat} {T : TypeId} {v0 v1 v2 v3 v4 v5 v6 v7 v8 : Value} (h : Bj w b #[v0, v1, v2, v3, v4, v5, v6, v7, v8] T) : (w.cell? ⟨b, 0, none⟩ = some v0 ∧ w.cell? ⟨b, 1, none⟩ = some v1 ∧ w.cell? ⟨b, 2, none⟩ = some v2 ∧ w.cell? ⟨b, 3, none⟩ = some v3 ∧ w.cell? ⟨b, 4, none⟩ = some v4 ∧ w.cell? ⟨b, 5, none⟩ = some v5 ∧ w.cell? ⟨b, 6, none⟩ = some v6 ∧ w.cell? ⟨b, 7, none⟩ = some v7 ∧ w.cell? ⟨b, 8, none⟩ = some v8) ∧ (w.frozen? ⟨b, 0, none⟩ = false ∧ w.frozen? ⟨b, 1, none⟩ = false ∧ w.frozen? ⟨b, 2, none⟩ = false ∧ w.frozen? ⟨b, 3, none⟩ = false ∧ w.frozen? ⟨b, 4, none⟩ = false ∧ w.frozen? ⟨b, 5, none⟩ = false ∧ w.frozen? ⟨b, 6, none⟩ = false ∧ w.frozen? ⟨b, 7, none⟩ = false ∧ w.frozen? ⟨b, 8, none⟩ = false) :=
  ⟨⟨h.cell 0, h.cell 1, h.cell 2, h.cell 3, h.cell 4, h.cell 5, h.cell 6, h.cell 7, h.cell 8⟩, h.fr 0, h.fr 1, h.fr 2, h.fr 3, h.fr 4, h.fr 5, h.fr 6, h.fr 7, h.fr 8⟩
theorem jset_same {w : World} {p : Addr} (v : Value) (h : (w.cell? p).isSome = true) : (w.setCell p v).cell? p = some v := by
  obtain ⟨u, hu⟩ := Option.isSome_iff_exists.mp h
  exact World.cell?_setCell_same w p v hu
theorem Bj.second (w : World) (o : Obj) (cs : Array Value) (T : TypeId) : Bj ((w.alloc o).alloc (.cells cs T)) (w.heap.size + 1) cs T := by
  have := Bj.new (w.alloc o) cs T
  rwa [World.size_alloc] at this
theorem Bj.first (w : World) (o : Obj) (cs : Array Value) (T : TypeId) : Bj ((w.alloc (.cells cs T)).alloc o) w.heap.size cs T := (Bj.new w cs T).more ((Below.refl _ _).alloc (Nat.le_refl _) o)
end Go.Proofs.YtbfalppeifkjdaaGreatDoor
end
section
namespace Go.Proofs.YtbfalppeifkjdaaGreatDoor
open Go.RowKit
theorem wj_rowF {w w' : World} {B : Nat} {e : TypeId} {k n : Nat} {v : Value} {xs : List Value} (h : w.ownsRowF B e k v n xs) (hs : ∀ g, v.ownBlock = some g → w'.heap[g]? = w.heap[g]?) : w'.ownsRowF B e k v n xs := by
  refine ⟨h.1, ?_⟩
  rcases h.2 with hn | ⟨g, cap, cur, fz, rfl, hb, hg, rest⟩
  · exact .inl hn
  · exact .inr ⟨g, cap, cur, fz, rfl, hb, (hs g rfl).trans hg, rest⟩
theorem wj_kind {w : World} {B : Nat} {e : TypeId} {k n : Nat} {v : Value} {xs : List Value} (h : w.ownsRowF B e k v n xs) : ∀ g, v.ownBlock = some g → B ≤ g ∧ g < w.heap.size ∧ ∃ cs fz, w.heap[g]? = some (.cells cs e fz) := by
  intro g hg
  rcases h.2 with ⟨rfl, _⟩ | ⟨g', cap, cur, fz, rfl, hb, hh, _⟩
  · cases hg
  · simp only [Value.ownBlock, Option.some.injEq] at hg
    subst hg
    exact ⟨hb, (Array.getElem?_eq_some_iff.1 hh).1, _, _, hh⟩
theorem wj_base {w : World} {B B' : Nat} {e : TypeId} {k n : Nat} {v : Value} {xs : List Value} (h : w.ownsRowF B' e k v n xs) (hb : B ≤ B') : w.ownsRowF B e k v n xs := by
  refine ⟨h.1, ?_⟩
  rcases h.2 with hn | ⟨g, cap, cur, fz, rfl, hB, rest⟩
  · exact .inl hn
  · exact .inr ⟨g, cap, cur, fz, rfl, by omega, rest⟩
theorem wj_val {w : World} {B : Nat} {e : TypeId} {n : Nat} {v : Value} {xs : List Value} (h : w.ownsRowF B e 1 v n xs) : ∃ a c, v = .slice a n c := by
  rcases h.2 with ⟨rfl, rfl⟩ | ⟨g, cap, cur, fz, rfl, _⟩
  · exact ⟨_, _, rfl⟩
  · exact ⟨_, _, rfl⟩
theorem wj_append_str {P : Program} (w : World) (base : Nat) (t u ty e : TypeId) (i : TypeInfo) (ht : P.underlying t = some (.slice e)) (hu : P.underlying u = some .string) (hi : P.info? e = some i) (hz : i.zero = some (.int .u8 0)) (hsize : i.size = 1) (hby : i.bytes = 1)
    (v : Value) (n : Nat) (xs : List Value) (hown : w.ownsRowF base e 1 v n xs) (s : ByteArray) (hbytes : n + s.size ≤ 140737488355328) (hbase : base ≤ w.heap.size) :
    ∃ v' w', (Builtin.append_ #[t, u] ty #[v, .string s]).run P w = .ok v' w' ∧ w'.ownsRowF base e 1 v' (n + s.size) (xs ++ Lib.strCells s) ∧ w.grownBy w' v.ownBlock ∧ ∀ k, v'.ownBlock = some k → v.ownBlock = some k ∨ w.heap.size ≤ k := by
  have h63 : n + s.size ≤ maxLen := by unfold maxLen; omega
  rcases hown.2 with ⟨rfl, rfl⟩ | ⟨g, cap, cur, fz, rfl, hbg, hg, hfz, hnc, hcm, hcs, htake⟩
  · obtain ⟨v', w', h1, h2, h3, _⟩ := Lib.run_append_own_stringF (P := P) w w.heap.size t u ty e i ht hu hi hz hsize hby (.slice none 0 0) 0 xs ⟨hown.1, .inl ⟨rfl, rfl⟩⟩ s h63 hbytes (Nat.le_refl _)
    exact ⟨v', w', h1, wj_base h2 hbase, h3, fun k hk => .inr (wj_kind h2 k hk).1⟩
  · obtain ⟨v', w', h1, h2, h3, _⟩ := Lib.run_append_own_stringF (P := P) w base t u ty e i ht hu hi hz hsize hby _ n xs hown s h63 hbytes hbase
    refine ⟨v', w', h1, h2, h3, fun k hk => ?_⟩
    by_cases hroom : n + s.size ≤ cap
    · have hr := Lib.run_append_room_stringF (P := P) w t u ty e i ht hu hi hsize g n cap cur fz hg (by simpa using hfz) s hroom (by simp at hcs; omega)
      rw [h1] at hr
      injection hr with hr _
      rw [hr] at hk
      exact .inl hk
    · have hxl : xs.length = n := by simpa using hown.1
      have hr := Lib.run_append_grow_string (P := P) w t u ty e i (.int .u8 0) ht hu hi hz ⟨g, 0, none⟩ n cap xs (by rw [hsize]; simpa using hxl) (hown.cells (g := g) rfl) s (by omega) (by unfold maxLen at h63; omega) (by rw [hby]; exact growslice_fits (by omega) (by omega))
      rw [h1] at hr
      injection hr with hr _
      rw [hr] at hk
      simp only [Value.ownBlock, Option.some.injEq] at hk
      exact .inr (by omega)
theorem wpList_wj_str {P : Program} (w : World) {ops : Array Oper} {rest : List Oper} {o : Oper} {a : Act} {Q : Exit → Act → World → Prop} (hgd : o.guard = none) (sl x : Operand) (t u : TypeId)
    (ho : o.op = .call { callee := .builtin .append, args := #[sl, x], argTypes := #[t, u] })
    (base : Nat) (e : TypeId) (i : TypeInfo) (ht : P.underlying t = some (.slice e)) (hu : P.underlying u = some .string) (hi : P.info? e = some i) (hz : i.zero = some (.int .u8 0)) (hsize : i.size = 1) (hby : i.bytes = 1)
    (v : Value) (n : Nat) (xs : List Value) (hs : a.eval sl = v) (hown : w.ownsRowF base e 1 v n xs) (s : ByteArray) (hx : a.eval x = .string s) (hbytes : n + s.size ≤ 140737488355328) (hbase : base ≤ w.heap.size)
    (h : ∀ v' w', w'.ownsRowF base e 1 v' (n + s.size) (xs ++ Lib.strCells s) → w.grownBy w' v.ownBlock → (∀ k, v'.ownBlock = some k → v.ownBlock = some k ∨ w.heap.size ≤ k) → wpList P ops Q rest (a.put o.dst v') w') : wpList P ops Q (o :: rest) a w := by
  refine wpList_plain hgd fun K hK => ?_
  obtain ⟨v', w', hr, h2, h3, h4⟩ := wj_append_str (P := P) w base t u o.type e i ht hu hi hz hsize hby v n xs hown s hbytes hbase
  unfold Oper.wp execOp
  simp only [ho, resolve, invoke, builtin, Sem.run_bind, Sem.run_pure, Result.andThen_ok, List.map_toArray, List.map_cons, List.map_nil, hs, hx, hr]
  exact hK _ _ (h v' w' h2 h3 h4)
theorem wj_append_row {P : Program} (w : World) (base : Nat) (t ty e : TypeId) (i : TypeInfo) (ht : P.underlying t = some (.slice e)) (hi : P.info? e = some i) (hz : i.zero = some (.int .u8 0)) (hsize : i.size = 1) (hby : i.bytes = 1)
    (v : Value) (n : Nat) (xs : List Value) (hown : w.ownsRowF base e 1 v n xs) (ad : Addr) (m c : Nat) (news : List Value) (hl : news.length = m * 1) (hnews : ∀ j u, news[j]? = some u → w.cell? (ad.add j) = some u) (h1 : ∀ u ∈ news, u.oneCell' = true) (hbytes : n + m ≤ 140737488355328) (hbase : base ≤ w.heap.size) :
    ∃ v' w', (Builtin.append_ #[t, t] ty #[v, .slice (some ad) m c]).run P w = .ok v' w' ∧ w'.ownsRowF base e 1 v' (n + m) (xs ++ news) ∧ w.grownBy w' v.ownBlock ∧ ∀ k, v'.ownBlock = some k → v.ownBlock = some k ∨ w.heap.size ≤ k := by
  have h63 : n + m ≤ maxLen := by unfold maxLen; omega
  rcases hown.2 with ⟨rfl, rfl⟩ | ⟨g, cap, cur, fz, rfl, hbg, hg, hfz, hnc, hcm, hcs, htake⟩
  · obtain ⟨v', w', r1, r2, r3, _⟩ := run_append_ownF (P := P) w w.heap.size t ty e i (.int .u8 0) 1 1 ht hi hz hsize hby rfl (by decide) (.slice none 0 0) 0 xs ⟨hown.1, .inl ⟨rfl, rfl⟩⟩ ad m c news hl hnews h1 h63 (by omega) (Nat.le_refl _)
    exact ⟨v', w', r1, wj_base r2 hbase, r3, fun k hk => .inr (wj_kind r2 k hk).1⟩
  · obtain ⟨v', w', r1, r2, r3, _⟩ := run_append_ownF (P := P) w base t ty e i (.int .u8 0) 1 1 ht hi hz hsize hby rfl (by decide) _ n xs hown ad m c news hl hnews h1 h63 (by omega) hbase
    refine ⟨v', w', r1, r2, r3, fun k hk => ?_⟩
    by_cases hroom : n + m ≤ cap
    · have hr := run_append_roomF (P := P) w t ty e i ht hi g n cap cur fz hg (by rw [hsize]; exact hfz) ad m c news (by rw [hsize]; exact hl) hnews h1 hroom (by rw [hsize]; omega)
      rw [r1] at hr
      injection hr with hr _
      rw [hr] at hk
      exact .inl hk
    · have hr := run_append_grow (P := P) w t ty e i (.int .u8 0) ht hi hz ⟨g, 0, none⟩ n cap xs (by rw [hsize]; exact hown.1) (hown.cells (g := g) rfl) ad m c news (by rw [hsize]; exact hl) hnews (by omega) (by unfold maxLen at h63; omega) (by rw [hby]; exact growslice_fits (by omega) (by omega))
      rw [r1] at hr
      injection hr with hr _
      rw [hr] at hk
      simp only [Value.ownBlock, Option.some.injEq] at hk
      exact .inr (by omega)
theorem wpList_wj_row {P : Program} (w : World) {ops : Array Oper} {rest : List Oper} {o : Oper} {a : Act} {Q : Exit → Act → World → Prop} (hgd : o.guard = none) (sl x : Operand) (t : TypeId)
    (ho : o.op = .call { callee := .builtin .append, args := #[sl, x], argTypes := #[t, t] })
    (base : Nat) (e : TypeId) (i : TypeInfo) (ht : P.underlying t = some (.slice e)) (hi : P.info? e = some i) (hz : i.zero = some (.int .u8 0)) (hsize : i.size = 1) (hby : i.bytes = 1)
    (v : Value) (n : Nat) (xs : List Value) (hs : a.eval sl = v) (hown : w.ownsRowF base e 1 v n xs) (ad : Addr) (m c : Nat) (news : List Value) (hx : a.eval x = .slice (some ad) m c) (hl : news.length = m * 1) (hnews : ∀ j u, news[j]? = some u → w.cell? (ad.add j) = some u) (h1 : ∀ u ∈ news, u.oneCell' = true) (hbytes : n + m ≤ 140737488355328) (hbase : base ≤ w.heap.size)
    (h : ∀ v' w', w'.ownsRowF base e 1 v' (n + m) (xs ++ news) → w.grownBy w' v.ownBlock → (∀ k, v'.ownBlock = some k → v.ownBlock = some k ∨ w.heap.size ≤ k) → wpList P ops Q rest (a.put o.dst v') w') : wpList P ops Q (o :: rest) a w := by
  refine wpList_plain hgd fun K hK => ?_
  obtain ⟨v', w', hr, h2, h3, h4⟩ := wj_append_row (P := P) w base t o.type e i ht hi hz hsize hby v n xs hown ad m c news hl hnews h1 hbytes hbase
  unfold Oper.wp execOp
  simp only [ho, resolve, invoke, builtin, Sem.run_bind, Sem.run_pure, Result.andThen_ok, List.map_toArray, List.map_cons, List.map_nil, hs, hx, hr]
  exact hK _ _ (h v' w' h2 h3 h4)
structure Cg (pb : Nat) (v v' : Value) (w w' : World) : Prop where
  os : w'.os = w.os
  tape : w'.tape = w.tape
  output : w'.output = w.output
  size : w.heap.size ≤ w'.heap.size
  block : ∀ k, k < w.heap.size → k ≠ pb → v.ownBlock ≠ some k → w'.heap[k]? = w.heap[k]?
  own : ∀ k, v'.ownBlock = some k → v.ownBlock = some k ∨ w.heap.size ≤ k
theorem Cg.refl (pb : Nat) (v : Value) (w : World) : Cg pb v v w w := ⟨rfl, rfl, rfl, Nat.le_refl _, fun _ _ _ _ => rfl, fun _ h => .inl h⟩
theorem Cg.trans {pb : Nat} {v v1 v2 : Value} {w w1 w2 : World} (h : Cg pb v v1 w w1) (k : Cg pb v1 v2 w1 w2) : Cg pb v v2 w w2 :=
  ⟨k.os.trans h.os, k.tape.trans h.tape, k.output.trans h.output, Nat.le_trans h.size k.size,
   fun i hi hp ho => (k.block i (Nat.lt_of_lt_of_le hi h.size) hp (fun e => by rcases h.own i e with x | x; exact ho x; omega)).trans (h.block i hi hp ho),
   fun i hi => by
    rcases k.own i hi with x | x
    · exact h.own i x
    · have := h.size
      exact .inr (by omega)⟩
theorem Cg.of {pb : Nat} {w w' : World} (v : Value) (h : Below w.heap.size w w') : Cg pb v v w w' := ⟨h.os, h.tape, h.output, h.size, fun k hk _ _ => h.block k hk, fun _ x => .inl x⟩
theorem Cg.below {B pb : Nat} {v v' : Value} {a w w' : World} (h : Cg pb v v' w w') (hb : Below B a w) (hp : B ≤ pb) (hv : ∀ k, v.ownBlock = some k → B ≤ k) (hB : B ≤ w.heap.size) : Below B a w' :=
  hb.trans ⟨h.os, h.tape, h.output, h.size, fun k hk => h.block k (by omega) (by omega) (fun e => by have := hv k e; omega)⟩
def Wst (w : World) (pb : Nat) (l : List UInt8) (vd : Value) : Prop := ∃ p, (p = .pointer none ∨ p = .pointer (some ⟨pb, 0, none⟩)) ∧ Bj w pb #[p, vd] 161 ∧ w.ownsRowF pb 5 1 vd l.length (Lib.byteCells l)
theorem Wst.lt {w : World} {pb : Nat} {l : List UInt8} {vd : Value} (h : Wst w pb l vd) : pb < w.heap.size := by
  obtain ⟨p, _, hb, _⟩ := h
  exact hb.lt
theorem Wst.ge {w : World} {pb : Nat} {l : List UInt8} {vd : Value} (h : Wst w pb l vd) : ∀ k, vd.ownBlock = some k → pb ≤ k ∧ k < w.heap.size := by
  obtain ⟨p, _, _, hr⟩ := h
  exact fun k hk => ⟨(wj_kind hr k hk).1, (wj_kind hr k hk).2.1⟩
theorem Wst.more {w w' : World} {pb : Nat} {l : List UInt8} {vd : Value} (h : Wst w pb l vd) (k : Below w.heap.size w w') : Wst w' pb l vd := by
  obtain ⟨p, hp, hb, hr⟩ := h
  exact ⟨p, hp, hb.more k, wj_rowF hr (fun g hg => k.block g (wj_kind hr g hg).2.1)⟩
theorem Wst.new (w : World) : Wst (w.alloc (.cells #[.pointer none, .slice none 0 0] 161)) w.heap.size [] (.slice none 0 0) :=
  ⟨_, .inl rfl, Bj.new w _ _, World.ownsRowF_nil _ _ _ _⟩
theorem wj_size : (Tryz.prog.info? 159).map (·.size) = some 2 := by kernel_rfl
theorem wj_lies : liesAt Tryz.prog Tryz.prog.depth 161 (2 / Tryz.prog.cellsOf 161) 0 159 1 = true := by kernel_rfl
theorem wj_u8 : (Tryz.prog.info? 5).map (fun i => (i.zero, i.size, i.bytes)) = some (some (.int .u8 0), 1, 1) := by kernel_rfl
set_option maxRecDepth 100000 in
theorem wj_check_used (pb : Nat) (w : World) (h0 : w.cell? ⟨pb, 0, none⟩ = some (.pointer (some ⟨pb, 0, none⟩))) :
    Calls Tryz.prog 156 #[.pointer (some ⟨pb, 0, none⟩)] w fun e w' => e = .returned (.tuple #[]) ∧ w' = w := by
  obtain ⟨j, hj, _⟩ := Option.map_eq_some_iff.1 wj_size
  go_enter Tryz.func156, Tryz.ntmps156
  go_wp2
  rw [Lib.run_neq_ptr_same w _ Tryz.underlying157 hj]
  go_wp2
  go_end0
  exact ⟨rfl, rfl⟩
set_option maxRecDepth 100000 in
theorem wj_check_fresh (pb : Nat) (w : World) (h0 : w.cell? ⟨pb, 0, none⟩ = some (.pointer none)) (hsh : w.shape? pb = some (161, 2)) (hfz : w.frozen? ⟨pb, 0, none⟩ = false) :
    Calls Tryz.prog 156 #[.pointer (some ⟨pb, 0, none⟩)] w fun e w' => e = .returned (.tuple #[]) ∧ w' = w.setCell ⟨pb, 0, none⟩ (.pointer (some ⟨pb, 0, none⟩)) := by
  obtain ⟨j, hj, hjs⟩ := Option.map_eq_some_iff.1 wj_size
  go_enter Tryz.func156, Tryz.ntmps156
  go_wp2
  rw [Lib.run_to_unsafe w ⟨pb, 0, none⟩ Tryz.underlying157 Tryz.underlying204 hj (by rw [hjs]; decide) hsh (show 0 < 2 by decide)]
  simp only [Result.andThen]
  rw [Oper.upon_value]
  go_wp2
  rw [run_callFunc_extern Tryz.func162 (by kernel_rfl) (by kernel_rfl) (by kernel_rfl) (e := Extern.AbiNoEscape.same) (by kernel_rfl)]
  rw [Lib.run_noEscape]
  simp only [Result.andThen]
  rw [Oper.upon_value]
  go_wp2
  rw [Lib.run_from_unsafe w ⟨pb, 0, none⟩ Tryz.underlying204 Tryz.underlying157 hj hsh wj_lies]
  simp only [Result.andThen]
  rw [Oper.upon_value]
  go_wp2
  go_end0
  exact ⟨rfl, rfl⟩
theorem wj_check (pb : Nat) (l : List UInt8) (vd : Value) (w : World) (h : Wst w pb l vd) :
    Calls Tryz.prog 156 #[.pointer (some ⟨pb, 0, none⟩)] w fun e w' => e = .returned (.tuple #[]) ∧ (Bj w' pb #[.pointer (some ⟨pb, 0, none⟩), vd] 161 ∧ w'.ownsRowF pb 5 1 vd l.length (Lib.byteCells l)) ∧ Cg pb vd vd w w' := by
  obtain ⟨p, hp, hb, hr⟩ := h
  rcases hp with rfl | rfl
  · refine (wj_check_fresh pb w (hb.cell 0) hb.shape (hb.fr 0)).mono ?_
    rintro e w' ⟨rfl, rfl⟩
    have hne : ∀ k, k ≠ pb → (w.setCell ⟨pb, 0, none⟩ (.pointer (some ⟨pb, 0, none⟩))).heap[k]? = w.heap[k]? := fun k hk => Below.heap_setCell w ⟨pb, 0, none⟩ _ k hk
    refine ⟨rfl, ⟨hb.set 0 _, wj_rowF hr (fun g hg => hne g (fun e => ?_))⟩, ⟨rfl, rfl, rfl, by simp [World.setCell], fun k _ hk _ => hne k hk, fun _ x => .inl x⟩⟩
    obtain ⟨_, _, cs, fz, hh⟩ := wj_kind hr g hg
    rw [e, hb] at hh
    cases hh
  · refine (wj_check_used pb w (hb.cell 0)).mono ?_
    rintro e w' ⟨rfl, rfl⟩
    exact ⟨rfl, ⟨hb, hr⟩, Cg.refl pb vd w'⟩
theorem wj_put {w1 w2 : World} {pb : Nat} {p vd v' : Value} {l l' : List UInt8} {w : World} (hp : p = .pointer (some ⟨pb, 0, none⟩)) (hb1 : Bj w1 pb #[p, vd] 161) (hr1 : w1.ownsRowF pb 5 1 vd l.length (Lib.byteCells l)) (k1 : Cg pb vd vd w w1) (hgrow : w1.grownBy w2 vd.ownBlock) (hown' : w2.ownsRowF pb 5 1 v' l'.length (Lib.byteCells l')) (hat : ∀ k, v'.ownBlock = some k → vd.ownBlock = some k ∨ w1.heap.size ≤ k) : (Bj w2 pb #[p, vd] 161 ∧ Wst (w2.setCell ⟨pb, 1, none⟩ v') pb l' v') ∧ Cg pb vd v' w (w2.setCell ⟨pb, 1, none⟩ v') := by
  have hne : vd.ownBlock ≠ some pb := by
    intro e
    obtain ⟨_, _, cs, fz, hh⟩ := wj_kind hr1 pb e
    rw [hb1] at hh
    cases hh
  have hb2 : Bj w2 pb #[p, vd] 161 := (hgrow.block pb hb1.lt (fun e => hne e.symm)).trans hb1
  refine ⟨⟨hb2, p, .inr hp, hb2.set 1 v', wj_rowF hown' (fun g hg => Below.heap_setCell _ _ _ _ (fun e => ?_))⟩, ?_⟩
  · obtain ⟨_, _, cs, fz, hh⟩ := wj_kind hown' g hg
    rw [show g = pb from e, hb2] at hh
    cases hh
  · refine ⟨hgrow.os.trans k1.os, hgrow.tape.trans k1.tape, hgrow.output.trans k1.output, by have := k1.size; have := hgrow.size; simp [World.setCell]; omega, fun k hk hkp hko => ?_, fun k hk => ?_⟩
    · rw [Below.heap_setCell _ _ _ _ hkp, hgrow.block k (Nat.lt_of_lt_of_le hk k1.size) (fun e => hko e.symm)]
      exact k1.block k hk hkp hko
    · rcases hat k hk with h | h
      · exact .inl h
      · have := k1.size
        exact .inr (by omega)
theorem wj_str_cells (s : ByteArray) : Lib.strCells s = Lib.byteCells s.data.toList := Lib.strCells_eq s
set_option maxRecDepth 100000 in
set_option maxHeartbeats 2000000 in
theorem wj_WriteString (pb : Nat) (l : List UInt8) (vd : Value) (s : ByteArray) (w : World) (h : Wst w pb l vd) (hlen : l.length + s.size ≤ 140737488355328) :
    Calls Tryz.prog 139 #[.pointer (some ⟨pb, 0, none⟩), .string s] w fun e w' => e = .returned (.tuple #[.int .i64 s.size, .nilIface]) ∧ ∃ vd', Wst w' pb (l ++ s.data.toList) vd' ∧ Cg pb vd vd' w w' := by
  obtain ⟨i0, hi, hz0, hz1, hz2⟩ := info_parts wj_u8
  have cC := wj_check pb l vd w h
  clear h
  go_enter Tryz.func139, Tryz.ntmps139
  go_wp2_with fail
  refine cC.mono ?_
  rintro e w1 ⟨rfl, ⟨hb1, hr1⟩, k1⟩
  have c8 := hb1.cell 1
  have hlt1 := hb1.lt
  go_wp2_with (at_builtin; refine wpList_wj_str _ rfl _ _ 81 9 rfl pb 5 i0 Tryz.underlying81 Tryz.underlying9 hi hz0 hz1 hz2 _ _ _ rfl hr1 s rfl hlen (Nat.le_of_lt hlt1) ?_)
  intro v' w2 hown' hgrow hat
  have hown2 : w2.ownsRowF pb 5 1 v' (l ++ s.data.toList).length (Lib.byteCells (l ++ s.data.toList)) := by
    rw [List.length_append, Lib.byteCells_append, ← wj_str_cells, show s.data.toList.length = s.size by simp]
    exact hown'
  obtain ⟨⟨hb2, hW⟩, hC⟩ := wj_put rfl hb1 hr1 k1 hgrow hown2 hat
  have d9 := hb2.cell 1
  have f9 := hb2.fr 1
  obtain ⟨A', cap', rfl⟩ := wj_val hown'
  go_wp2
  go_ret2
  exact ⟨rfl, _, hW, hC⟩
set_option maxRecDepth 100000 in
set_option maxHeartbeats 2000000 in
theorem wj_WriteByte (pb : Nat) (l : List UInt8) (vd : Value) (c : UInt8) (z : Int) (hz : (c.toNat : Int) = z) (w : World) (h : Wst w pb l vd) (hlen : l.length + 1 ≤ 140737488355328) :
    Calls Tryz.prog 143 #[.pointer (some ⟨pb, 0, none⟩), .int .u8 z] w fun e w' => e = .returned .nilIface ∧ ∃ vd', Wst w' pb (l ++ [c]) vd' ∧ Cg pb vd vd' w w' := by
  obtain ⟨i0, hi, hz0, hz1, hz2⟩ := info_parts wj_u8
  have cC := wj_check pb l vd w h
  have HZ := Lib.hid hz
  clear h hz
  go_enter Tryz.func143, Tryz.ntmps143
  go_wp2_with fail
  refine cC.mono ?_
  rintro e w1 ⟨rfl, ⟨hb1, hr1⟩, k1⟩
  have c8 := hb1.cell 1
  have hlt1 := hb1.lt
  have hal : Below w1.heap.size w1 (w1.alloc (.cells #[.int .u8 z] 5)) := (Below.refl _ _).alloc (Nat.le_refl _) _
  have hzz : (w1.alloc (.cells #[.int .u8 z] 5)).heap.size = w1.heap.size + 1 := by simp
  have hnews : ∀ j u, ([.int .u8 z] : List Value)[j]? = some u → (w1.alloc (.cells #[.int .u8 z] 5)).cell? ((⟨w1.heap.size, 0, none⟩ : Addr).add j) = some u := World.news_of_block (cs := #[.int .u8 z]) (heap_alloc_new w1 _)
  have hr1a := hr1.alloc (.cells #[.int .u8 z] 5)
  go_wp2_with (at_builtin; refine wpList_wj_row _ rfl _ _ 81 rfl pb 5 i0 Tryz.underlying81 hi hz0 hz1 hz2 _ _ _ rfl hr1a ⟨w1.heap.size, 0, none⟩ 1 1 [.int .u8 z] rfl rfl hnews (by intro u hu; simp at hu; subst hu; rfl) hlen (by rw [hzz]; omega) ?_)
  intro v' w2 hown' hgrow hat
  have hown2 : w2.ownsRowF pb 5 1 v' (l ++ [c]).length (Lib.byteCells (l ++ [c])) := by
    rw [List.length_append, Lib.byteCells_append]
    unfold Lib.byteCells at hown' ⊢
    rw [List.map_singleton, HZ.out]
    exact hown'
  obtain ⟨⟨hb2, hW⟩, hC⟩ := wj_put rfl (hb1.more hal) hr1a (k1.trans (Cg.of vd hal)) hgrow hown2 (fun k hk => by rw [hzz]; exact hat k hk)
  have d9 := hb2.cell 1
  have f9 := hb2.fr 1
  obtain ⟨A', cap', rfl⟩ := wj_val hown'
  go_wp2
  go_ret
  exact ⟨rfl, _, hW, hC⟩
theorem wj_u8cells : Tryz.prog.cellsOf 5 = 1 := by kernel_rfl
theorem wj_drew_freeze (w : World) (p : Addr) (n : Nat) : w.drew.freeze p n = (w.freeze p n).drewN 1 := by
  unfold World.freeze
  split <;> rfl
set_option maxRecDepth 100000 in
set_option maxHeartbeats 2000000 in
theorem wj_String (B pb : Nat) (hB : B ≤ pb) (l : List UInt8) (vd : Value) (w : World) (h : Wst w pb l vd) (h0 : l ≠ []) :
    Calls Tryz.prog 125 #[.pointer (some ⟨pb, 0, none⟩)] w fun e w' => e = .returned (.string (ofBytes l)) ∧ Below B w w' := by
  have hl0 : l.length ≠ 0 := by simpa using h0
  obtain ⟨p, _, hb, hr⟩ := h
  obtain ⟨g, cap, cur, fz, rfl, hBg, hg, hfz, hnc, hcm, hcs, htake⟩ : ∃ g cap cur fz, vd = .slice (some ⟨g, 0, none⟩) l.length cap ∧ pb ≤ g ∧ w.heap[g]? = some (.cells cur 5 fz) ∧ fz.2 ≤ l.length * 1 ∧ l.length ≤ cap ∧ cap ≤ maxLen ∧ cur.size = cap * 1 ∧ cur.toList.take (l.length * 1) = Lib.byteCells l := by
    rcases hr.2 with ⟨rfl, hh⟩ | ⟨g', cap', cur, fz, hh, r⟩
    · exact absurd hh hl0
    · exact ⟨g', cap', cur, fz, hh, r⟩
  have hlg : g < w.heap.size := (Array.getElem?_eq_some_iff.1 hg).1
  have c1 : w.drew.cell? ⟨pb, 1, none⟩ = some (.slice (some ⟨g, 0, none⟩) l.length cap) := hb.cell 1
  have c0 : w.cell? ⟨pb, 1, none⟩ = some (.slice (some ⟨g, 0, none⟩) l.length cap) := hb.cell 1
  have hSD : (Builtin.unsafeSliceData_ #[81] 190 #[.slice (some ⟨g, 0, none⟩) l.length cap]).run Tryz.prog w.drew = .ok (.pointer (some ⟨g, 0, none⟩)) w.drew :=
    Lib.run_unsafeSliceData_row _ _ _ _ _ _ (by omega)
  have hUS : (Builtin.unsafeString_ #[190, 3] 9 #[.pointer (some ⟨g, 0, none⟩), .int .i64 l.length]).run Tryz.prog w.drew = .ok (.string ⟨l.toArray⟩) (w.drew.freeze ⟨g, 0, none⟩ l.length) := by
    refine Lib.run_unsafeString_row w.drew 190 3 9 5 Tryz.underlying190 wj_u8cells g cur.size (by have hg' : w.drew.heap[g]? = some (.cells cur 5 fz) := hg; simp [World.shape?, hg']) l h0 (by omega) (by unfold maxLen at hcm; omega) ?_
    intro j x hx
    exact hr.cells (g := g) rfl j (.int .u8 x.toNat) (by simp [Lib.byteCells, hx])
  have HBW := Lib.hid (show Below B w (w.drew.freeze ⟨g, 0, none⟩ l.length) by
    rw [wj_drew_freeze]
    exact (Lib.below_freeze (Below.refl B w) (p := ⟨g, 0, none⟩) (Nat.le_trans hB hBg) l.length).trans ⟨rfl, rfl, rfl, Nat.le_refl _, fun _ _ => rfl⟩)
  clear hr hg htake hb hcm hcs hnc hfz
  go_enter Tryz.func125, Tryz.ntmps125
  go_wp2
  go_region
  all_goals
    go_wp2
    go_ret
    exact ⟨rfl, HBW.out⟩
end Go.Proofs.YtbfalppeifkjdaaGreatDoor
end
section
namespace Go.Proofs.YtbfalppeifkjdaaGreatDoor
open Go.RowKit
theorem ItemsAt.cells {w : World} {pp : Option Addr} {l : List ValD} (h : ItemsAt w pp 0 l) (i : Nat) (hi : i < l.length) : ∃ a p c q d, pp = some a ∧ (w.cell? (a.add (i * 7)) = some (.int .i64 l[i].kind) ∧ w.cell? ((a.add (i * 7)).add 1) = some (.bool l[i].b) ∧ w.cell? ((a.add (i * 7)).add 2) = some (.int .i64 l[i].n) ∧ w.cell? ((a.add (i * 7)).add 3) = some (.string l[i].s) ∧ w.cell? ((a.add (i * 7)).add 4) = some (.slice p l[i].items.length c) ∧ w.cell? ((a.add (i * 7)).add 5) = some (.slice q l[i].mems.length d) ∧ w.cell? ((a.add (i * 7)).add 6) = some (.int .i64 l[i].at')) ∧ ValIs w l[i] (.agg #[.int .i64 l[i].kind, .bool l[i].b, .int .i64 l[i].n, .string l[i].s, .slice p l[i].items.length c, .slice q l[i].mems.length d, .int .i64 l[i].at']) := by
  obtain ⟨a, v0, v1, v2, v3, v4, v5, v6, hp, hc, hn⟩ := ItemsAt.get l 0 h i hi
  rw [Nat.zero_add] at hc
  have hn' := hn
  rw [val_is] at hn
  obtain ⟨p, c, q, d, he, _, _⟩ := hn
  simp only [Value.agg.injEq, Array.mk.injEq, List.cons.injEq, and_true] at he
  obtain ⟨rfl, rfl, rfl, rfl, rfl, rfl, rfl⟩ := he
  exact ⟨a, p, c, q, d, hp, hc, hn'⟩
theorem MemsAt.cells {w : World} {pp : Option Addr} {l : List MemD} (h : MemsAt w pp 0 l) (i : Nat) (hi : i < l.length) : ∃ a p c q d, pp = some a ∧ (w.cell? (a.add (i * 9)) = some (.string l[i].key) ∧ w.cell? ((a.add (i * 9)).add 1) = some (.int .i64 l[i].v.kind) ∧ w.cell? ((a.add (i * 9)).add 2) = some (.bool l[i].v.b) ∧ w.cell? ((a.add (i * 9)).add 3) = some (.int .i64 l[i].v.n) ∧ w.cell? ((a.add (i * 9)).add 4) = some (.string l[i].v.s) ∧ w.cell? ((a.add (i * 9)).add 5) = some (.slice p l[i].v.items.length c) ∧ w.cell? ((a.add (i * 9)).add 6) = some (.slice q l[i].v.mems.length d) ∧ w.cell? ((a.add (i * 9)).add 7) = some (.int .i64 l[i].v.at') ∧ w.cell? ((a.add (i * 9)).add 8) = some (.int .i64 l[i].at')) ∧ ValIs w l[i].v (.agg #[.int .i64 l[i].v.kind, .bool l[i].v.b, .int .i64 l[i].v.n, .string l[i].v.s, .slice p l[i].v.items.length c, .slice q l[i].v.mems.length d, .int .i64 l[i].v.at']) := by
  obtain ⟨a, v0, v1, v2, v3, v4, v5, v6, hp, hc, hn⟩ := MemsAt.get l 0 h i hi
  rw [Nat.zero_add] at hc
  have hn' := hn
  rw [val_is] at hn
  obtain ⟨p, c, q, d, he, _, _⟩ := hn
  simp only [Value.agg.injEq, Array.mk.injEq, List.cons.injEq, and_true] at he
  obtain ⟨rfl, rfl, rfl, rfl, rfl, rfl, rfl⟩ := he
  exact ⟨a, p, c, q, d, hp, hc, hn'⟩
end Go.Proofs.YtbfalppeifkjdaaGreatDoor
end
section
namespace Go.Proofs.YtbfalppeifkjdaaGreatDoor
open Go.RowKit
def sans (w : World) (X : Nat → Bool) : World := { w with heap := w.heap.mapIdx fun k o => if X k = true then .cells #[] 0 (0, 0) else o }
theorem sans_size (w : World) (X : Nat → Bool) : (sans w X).heap.size = w.heap.size := by simp [sans]
theorem sans_ne (w : World) (X : Nat → Bool) (k : Nat) (h : X k = false) : (sans w X).heap[k]? = w.heap[k]? := by
  simp [sans, Array.getElem?_mapIdx, h]
theorem sans_in (w : World) (X : Nat → Bool) (k : Nat) (h : X k = true) (hk : k < w.heap.size) : (sans w X).heap[k]? = some (.cells #[] 0 (0, 0)) := by
  simp [sans, h, hk]
theorem sans_cell {w : World} {X : Nat → Bool} {a : Addr} {v : Value} (h : (sans w X).cell? a = some v) : w.cell? a = some v ∧ X a.block = false ∧ a.block < w.heap.size := by
  have hlt := vblock_lt h
  rw [sans_size] at hlt
  have hne : X a.block = false := by
    rcases he : X a.block with _ | _
    · rfl
    · unfold World.cell? at h
      rw [sans_in w X _ he hlt] at h
      simp at h
  exact ⟨by rw [← World.cell?_of_block (sans_ne w X a.block hne)]; exact h, hne, hlt⟩
theorem sans_out {w : World} {X : Nat → Bool} {a : Addr} (h : X a.block = false) : (sans w X).cell? a = w.cell? a := World.cell?_of_block (sans_ne w X a.block h)
def Gos (w : World) (X : Nat → Bool) (w' : World) (X' : Nat → Bool) : Prop := ∀ k, k < w.heap.size → X k = false → X' k = false ∧ w'.heap[k]? = w.heap[k]?
theorem Gos.refl (w : World) (X : Nat → Bool) : Gos w X w X := fun _ _ h => ⟨h, rfl⟩
theorem Gos.trans {w w' w'' : World} {X X' X'' : Nat → Bool} (h : Gos w X w' X') (h' : Gos w' X' w'' X'') (hz : w.heap.size ≤ w'.heap.size) : Gos w X w'' X'' := fun k hk hn => by
  obtain ⟨a, b⟩ := h k hk hn
  obtain ⟨c, d⟩ := h' k (by omega) a
  exact ⟨c, d.trans b⟩
theorem Gos.cell {w w' : World} {X X' : Nat → Bool} (h : Gos w X w' X') (a : Addr) (v : Value) (hc : (sans w X).cell? a = some v) : (sans w' X').cell? a = some v := by
  obtain ⟨h1, h2, h3⟩ := sans_cell hc
  obtain ⟨h4, h5⟩ := h _ h3 h2
  rw [sans_out h4, World.cell?_of_block h5]
  exact h1
theorem Gos.below {w w' : World} {X : Nat → Bool} (h : Below w.heap.size w w') : Gos w X w' X := fun k hk hn => ⟨hn, h.block k hk⟩
theorem Gos.less {w : World} {X X' : Nat → Bool} (h : ∀ k, X' k = true → X k = true) : Gos w X w X' := fun k _ hn => by
  rcases he : X' k with _ | _
  · exact ⟨rfl, rfl⟩
  · rw [h k he] at hn
    cases hn
theorem Gos.grown {w w' : World} {X : Nat → Bool} {row : Option Nat} (h : w.grownBy w' row) (hr : ∀ k, row = some k → X k = true) : Gos w X w' X := fun k hk hn => ⟨hn, h.block k hk (fun e => by rw [hr k e.symm] at hn; cases hn)⟩
theorem Gos.set {w : World} {X : Nat → Bool} {a : Addr} (h : X a.block = true) (u : Value) : Gos w X (w.setCell a u) X := fun k _ hn => ⟨hn, Below.heap_setCell w a u k (fun e => by rw [e, h] at hn; cases hn)⟩
theorem Gos.part {w w' : World} {X : Nat → Bool} (h : Pj (fun k => X k = true) w w') : Gos w X w' X := fun k hk hn => ⟨hn, h.block k hk (fun e => by rw [e] at hn; cases hn)⟩
mutual
theorem ValIs.mono {w w' : World} (hm : ∀ a v, w.cell? a = some v → w'.cell? a = some v) : ∀ (n : ValD) (v : Value), ValIs w n v → ValIs w' n v
  | .mk kind b n s items mems at', v, h => by
    rw [ValIs] at h ⊢
    obtain ⟨p, c, q, d, rfl, ha, hk⟩ := h
    exact ⟨p, c, q, d, rfl, ItemsAt.mono hm items p 0 ha, MemsAt.mono hm mems q 0 hk⟩
theorem ItemsAt.mono {w w' : World} (hm : ∀ a v, w.cell? a = some v → w'.cell? a = some v) : ∀ (l : List ValD) (p : Option Addr) (i : Nat), ItemsAt w p i l → ItemsAt w' p i l
  | [], p, i, _ => by rw [ItemsAt]; trivial
  | k :: r, p, i, h => by
    rw [ItemsAt] at h ⊢
    obtain ⟨⟨a, v0, v1, v2, v3, v4, v5, v6, hp, ⟨h0, h1, h2, h3, h4, h5, h6⟩, hn⟩, hr⟩ := h
    exact ⟨⟨a, v0, v1, v2, v3, v4, v5, v6, hp, ⟨hm _ _ h0, hm _ _ h1, hm _ _ h2, hm _ _ h3, hm _ _ h4, hm _ _ h5, hm _ _ h6⟩, ValIs.mono hm k _ hn⟩, ItemsAt.mono hm r p (i + 1) hr⟩
theorem MemsAt.mono {w w' : World} (hm : ∀ a v, w.cell? a = some v → w'.cell? a = some v) : ∀ (l : List MemD) (p : Option Addr) (i : Nat), MemsAt w p i l → MemsAt w' p i l
  | [], p, i, _ => by rw [MemsAt]; trivial
  | m :: r, p, i, h => by
    rw [MemsAt] at h ⊢
    exact ⟨MemAt.mono hm m p i h.1, MemsAt.mono hm r p (i + 1) h.2⟩
theorem MemAt.mono {w w' : World} (hm : ∀ a v, w.cell? a = some v → w'.cell? a = some v) : ∀ (m : MemD) (p : Option Addr) (i : Nat), MemAt w p i m → MemAt w' p i m
  | .mk key v at', p, i, h => by
    rw [MemAt] at h ⊢
    obtain ⟨a, v0, v1, v2, v3, v4, v5, v6, hp, ⟨h0, h1, h2, h3, h4, h5, h6, h7, h8⟩, hn⟩ := h
    exact ⟨a, v0, v1, v2, v3, v4, v5, v6, hp, ⟨hm _ _ h0, hm _ _ h1, hm _ _ h2, hm _ _ h3, hm _ _ h4, hm _ _ h5, hm _ _ h6, hm _ _ h7, hm _ _ h8⟩, ValIs.mono hm v _ hn⟩
end
theorem ValIs.go {w w' : World} {X X' : Nat → Bool} {n : ValD} {v : Value} (h : ValIs (sans w X) n v) (hg : Gos w X w' X') : ValIs (sans w' X') n v := ValIs.mono (fun a u => hg.cell a u) n v h
theorem ValIs.full {w : World} {X : Nat → Bool} {n : ValD} {v : Value} (h : ValIs (sans w X) n v) : ValIs w n v := ValIs.mono (fun _ _ hc => (sans_cell hc).1) n v h
def low (B : Nat) (k : Nat) : Bool := decide (k < B)
end Go.Proofs.YtbfalppeifkjdaaGreatDoor
end
