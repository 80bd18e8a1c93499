/- Packed from the texts JvA JvP JvW. -/
import Derived.Test.YtggfblodjanfkaaGreatDoorVTokA
import Derived.ProofKit
import Derived.Laws.Rows
section
namespace Go.Proofs.YtggfblodjanfkaaGreatDoor
open Go.RowKit
mutual
inductive ValD where
  | mk (kind : Int) (b : Bool) (n : Int) (s : ByteArray) (items : List ValD) (mems : List MemD) (at' : Int)
inductive MemD where
  | mk (key : ByteArray) (v : ValD) (at' : Int)
end
def ValD.kind : ValD → Int | .mk k _ _ _ _ _ _ => k
def ValD.b : ValD → Bool | .mk _ b _ _ _ _ _ => b
def ValD.n : ValD → Int | .mk _ _ n _ _ _ _ => n
def ValD.s : ValD → ByteArray | .mk _ _ _ s _ _ _ => s
def ValD.items : ValD → List ValD | .mk _ _ _ _ i _ _ => i
def ValD.mems : ValD → List MemD | .mk _ _ _ _ _ m _ => m
def ValD.at' : ValD → Int | .mk _ _ _ _ _ _ a => a
def MemD.key : MemD → ByteArray | .mk k _ _ => k
def MemD.v : MemD → ValD | .mk _ v _ => v
def MemD.at' : MemD → Int | .mk _ _ a => a
mutual
def ValIs (w : World) : ValD → Value → Prop
  | .mk kind b n s items mems at', v => ∃ p c q d, v = .agg #[.int .i64 kind, .bool b, .int .i64 n, .string s, .slice p items.length c, .slice q mems.length d, .int .i64 at'] ∧ ItemsAt w p 0 items ∧ MemsAt w q 0 mems
def ItemsAt (w : World) (p : Option Addr) (i : Nat) : List ValD → Prop
  | [] => True
  | k :: r => (∃ a v0 v1 v2 v3 v4 v5 v6, p = some a ∧ (w.cell? (a.add (i * 7)) = some v0 ∧ w.cell? ((a.add (i * 7)).add 1) = some v1 ∧ w.cell? ((a.add (i * 7)).add 2) = some v2 ∧ w.cell? ((a.add (i * 7)).add 3) = some v3 ∧ w.cell? ((a.add (i * 7)).add 4) = some v4 ∧ w.cell? ((a.add (i * 7)).add 5) = some v5 ∧ w.cell? ((a.add (i * 7)).add 6) = some v6) ∧ ValIs w k (.agg #[v0, v1, v2, v3, v4, v5, v6])) ∧ ItemsAt w p (i + 1) r
def MemsAt (w : World) (p : Option Addr) (i : Nat) : List MemD → Prop
  | [] => True
  | m :: r => MemAt w p i m ∧ MemsAt w p (i + 1) r
def MemAt (w : World) (p : Option Addr) (i : Nat) : MemD → Prop
  | .mk key v at' => ∃ a v0 v1 v2 v3 v4 v5 v6, p = some a ∧ (w.cell? (a.add (i * 9)) = some (.string key) ∧ w.cell? ((a.add (i * 9)).add 1) = some v0 ∧ w.cell? ((a.add (i * 9)).add 2) = some v1 ∧ w.cell? ((a.add (i * 9)).add 3) = some v2 ∧ w.cell? ((a.add (i * 9)).add 4) = some v3 ∧ w.cell? ((a.add (i * 9)).add 5) = some v4 ∧ w.cell? ((a.add (i * 9)).add 6) = some v5 ∧ w.cell? ((a.add (i * 9)).add 7) = some v6 ∧ w.cell? ((a.add (i * 9)).add 8) = some (.int .i64 at')) ∧ ValIs w v (.agg #[v0, v1, v2, v3, v4, v5, v6])
end
theorem val_is (w : World) (n : ValD) (v : Value) : ValIs w n v ↔ ∃ p c q d, v = .agg #[.int .i64 n.kind, .bool n.b, .int .i64 n.n, .string n.s, .slice p n.items.length c, .slice q n.mems.length d, .int .i64 n.at'] ∧ ItemsAt w p 0 n.items ∧ MemsAt w q 0 n.mems := by
  cases n; rw [ValIs]; exact Iff.rfl
theorem mem_at (w : World) (p : Option Addr) (i : Nat) (m : MemD) : MemAt w p i m ↔ ∃ a v0 v1 v2 v3 v4 v5 v6, p = some a ∧ (w.cell? (a.add (i * 9)) = some (.string m.key) ∧ w.cell? ((a.add (i * 9)).add 1) = some v0 ∧ w.cell? ((a.add (i * 9)).add 2) = some v1 ∧ w.cell? ((a.add (i * 9)).add 3) = some v2 ∧ w.cell? ((a.add (i * 9)).add 4) = some v3 ∧ w.cell? ((a.add (i * 9)).add 5) = some v4 ∧ w.cell? ((a.add (i * 9)).add 6) = some v5 ∧ w.cell? ((a.add (i * 9)).add 7) = some v6 ∧ w.cell? ((a.add (i * 9)).add 8) = some (.int .i64 m.at')) ∧ ValIs w m.v (.agg #[v0, v1, v2, v3, v4, v5, v6]) := by
  cases m; rw [MemAt]; exact Iff.rfl
theorem vblock_lt {w : World} {a : Addr} {v : Value} (hc : w.cell? a = some v) : a.block < w.heap.size := by
  rcases Nat.lt_or_ge a.block w.heap.size with h' | h'
  · exact h'
  · simp [World.cell?, Array.getElem?_eq_none h'] at hc
mutual
theorem ValIs.below {w w' : World} (hb : Below w.heap.size w w') : ∀ (n : ValD) (v : Value), ValIs w n v → ValIs w' n v
  | .mk kind b n s items mems at', v, h => by
    rw [ValIs] at h ⊢
    obtain ⟨p, c, q, d, rfl, ha, hk⟩ := h
    exact ⟨p, c, q, d, rfl, ItemsAt.below hb items p 0 ha, MemsAt.below hb mems q 0 hk⟩
theorem ItemsAt.below {w w' : World} (hb : Below w.heap.size w w') : ∀ (l : List ValD) (p : Option Addr) (i : Nat), ItemsAt w p i l → ItemsAt w' p i l
  | [], p, i, _ => by rw [ItemsAt]; trivial
  | k :: r, p, i, h => by
    rw [ItemsAt] at h ⊢
    obtain ⟨⟨a, v0, v1, v2, v3, v4, v5, v6, hp, ⟨h0, h1, h2, h3, h4, h5, h6⟩, hn⟩, hr⟩ := h
    exact ⟨⟨a, v0, v1, v2, v3, v4, v5, v6, hp, ⟨(hb.cell (vblock_lt h0)).trans h0, (hb.cell (vblock_lt h1)).trans h1, (hb.cell (vblock_lt h2)).trans h2, (hb.cell (vblock_lt h3)).trans h3, (hb.cell (vblock_lt h4)).trans h4, (hb.cell (vblock_lt h5)).trans h5, (hb.cell (vblock_lt h6)).trans h6⟩, ValIs.below hb k _ hn⟩, ItemsAt.below hb r p (i + 1) hr⟩
theorem MemsAt.below {w w' : World} (hb : Below w.heap.size w w') : ∀ (l : List MemD) (p : Option Addr) (i : Nat), MemsAt w p i l → MemsAt w' p i l
  | [], p, i, _ => by rw [MemsAt]; trivial
  | m :: r, p, i, h => by
    rw [MemsAt] at h ⊢
    exact ⟨MemAt.below hb m p i h.1, MemsAt.below hb r p (i + 1) h.2⟩
theorem MemAt.below {w w' : World} (hb : Below w.heap.size w w') : ∀ (m : MemD) (p : Option Addr) (i : Nat), MemAt w p i m → MemAt w' p i m
  | .mk key v at', p, i, h => by
    rw [MemAt] at h ⊢
    obtain ⟨a, v0, v1, v2, v3, v4, v5, v6, hp, ⟨h0, h1, h2, h3, h4, h5, h6, h7, h8⟩, hn⟩ := h
    exact ⟨a, v0, v1, v2, v3, v4, v5, v6, hp, ⟨(hb.cell (vblock_lt h0)).trans h0, (hb.cell (vblock_lt h1)).trans h1, (hb.cell (vblock_lt h2)).trans h2, (hb.cell (vblock_lt h3)).trans h3, (hb.cell (vblock_lt h4)).trans h4, (hb.cell (vblock_lt h5)).trans h5, (hb.cell (vblock_lt h6)).trans h6, (hb.cell (vblock_lt h7)).trans h7, (hb.cell (vblock_lt h8)).trans h8⟩, ValIs.below hb v _ hn⟩
end
theorem ItemsAt.get {w : World} {p : Option Addr} : ∀ (l : List ValD) (j : Nat), ItemsAt w p j l → ∀ i (h : i < l.length), ∃ a v0 v1 v2 v3 v4 v5 v6, p = some a ∧ (w.cell? (a.add ((j + i) * 7)) = some v0 ∧ w.cell? ((a.add ((j + i) * 7)).add 1) = some v1 ∧ w.cell? ((a.add ((j + i) * 7)).add 2) = some v2 ∧ w.cell? ((a.add ((j + i) * 7)).add 3) = some v3 ∧ w.cell? ((a.add ((j + i) * 7)).add 4) = some v4 ∧ w.cell? ((a.add ((j + i) * 7)).add 5) = some v5 ∧ w.cell? ((a.add ((j + i) * 7)).add 6) = some v6) ∧ ValIs w l[i] (.agg #[v0, v1, v2, v3, v4, v5, v6])
  | [], _, _, i, h => absurd h (Nat.not_lt_zero _)
  | k :: r, j, hk, 0, _ => by
    rw [ItemsAt] at hk
    exact hk.1
  | k :: r, j, hk, i + 1, h => by
    rw [ItemsAt] at hk
    have := ItemsAt.get r (j + 1) hk.2 i (by simpa using h)
    rw [show j + 1 + i = j + (i + 1) by omega] at this
    exact this
theorem MemsAt.get {w : World} {p : Option Addr} : ∀ (l : List MemD) (j : Nat), MemsAt w p j l → ∀ i (h : i < l.length), ∃ a v0 v1 v2 v3 v4 v5 v6, p = some a ∧ (w.cell? (a.add ((j + i) * 9)) = some (.string l[i].key) ∧ w.cell? ((a.add ((j + i) * 9)).add 1) = some v0 ∧ w.cell? ((a.add ((j + i) * 9)).add 2) = some v1 ∧ w.cell? ((a.add ((j + i) * 9)).add 3) = some v2 ∧ w.cell? ((a.add ((j + i) * 9)).add 4) = some v3 ∧ w.cell? ((a.add ((j + i) * 9)).add 5) = some v4 ∧ w.cell? ((a.add ((j + i) * 9)).add 6) = some v5 ∧ w.cell? ((a.add ((j + i) * 9)).add 7) = some v6 ∧ w.cell? ((a.add ((j + i) * 9)).add 8) = some (.int .i64 l[i].at')) ∧ ValIs w l[i].v (.agg #[v0, v1, v2, v3, v4, v5, v6])
  | [], _, _, i, h => absurd h (Nat.not_lt_zero _)
  | k :: r, j, hk, 0, _ => by
    rw [MemsAt] at hk
    exact (mem_at w p j k).1 hk.1
  | k :: r, j, hk, i + 1, h => by
    rw [MemsAt] at hk
    have := MemsAt.get r (j + 1) hk.2 i (by simpa using h)
    rw [show j + 1 + i = j + (i + 1) by omega] at this
    exact this
mutual
def ValD.depth : ValD → Nat
  | .mk kind _ _ _ items mems _ => (if kind = 4 then vdepths items 0 else if kind = 5 then mdepths mems 0 else 0) + 1
def vdepths : List ValD → Nat → Nat
  | [], m => m
  | k :: r, m => vdepths r (max m k.depth)
def mdepths : List MemD → Nat → Nat
  | [], m => m
  | k :: r, m => mdepths r (max m k.depth)
def MemD.depth : MemD → Nat
  | .mk _ v _ => v.depth
end
theorem vdepth_eq (v : ValD) : v.depth = (if v.kind = 4 then vdepths v.items 0 else if v.kind = 5 then mdepths v.mems 0 else 0) + 1 := by cases v; rw [ValD.depth]; rfl
end Go.Proofs.YtggfblodjanfkaaGreatDoor
end
section
namespace Go.Proofs.YtggfblodjanfkaaGreatDoor
open Go.RowKit
def Bj (w : World) (b : Nat) (cs : Array Value) (T : TypeId) : Prop := w.heap[b]? = some (.cells cs T (0, 0))
theorem Bj.lt {w : World} {b : Nat} {cs : Array Value} {T : TypeId} (h : Bj w b cs T) : b < w.heap.size := (Array.getElem?_eq_some_iff.1 h).1
theorem Bj.cell {w : World} {b : Nat} {cs : Array Value} {T : TypeId} (h : Bj w b cs T) (o : Nat) : w.cell? ⟨b, o, none⟩ = cs[o]? := cell_of_row w b o _ _ _ h
theorem Bj.fr {w : World} {b : Nat} {cs : Array Value} {T : TypeId} (h : Bj w b cs T) (o : Nat) : w.frozen? ⟨b, o, none⟩ = false := frozen_of_row w b o _ _ h
theorem Bj.more {w w' : World} {b : Nat} {cs : Array Value} {T : TypeId} (h : Bj w b cs T) (k : Below w.heap.size w w') : Bj w' b cs T := (k.block b h.lt).trans h
theorem Bj.own {w : World} {b : Nat} {cs : Array Value} {T : TypeId} (h : Bj w b cs T) {q : Addr} (hq : q.block ≠ b) (u : Value) : Bj (w.setCell q u) b cs T := (Below.heap_setCell w q u b (fun e => hq e.symm)).trans h
theorem Bj.new (w : World) (cs : Array Value) (T : TypeId) : Bj (w.alloc (.cells cs T)) w.heap.size cs T := heap_alloc_new w _
theorem Bj.shape {w : World} {b : Nat} {cs : Array Value} {T : TypeId} (h : Bj w b cs T) : w.shape? b = some (T, cs.size) := by
  unfold Bj at h
  simp [World.shape?, h]
theorem Bj.set {w : World} {b : Nat} {cs : Array Value} {T : TypeId} (h : Bj w b cs T) (o : Nat) (u : Value) : Bj (w.setCell ⟨b, o, none⟩ u) b (cs.setIfInBounds o u) T := heap_setCell_same w b o _ _ u h
structure Pj (X : Nat → Prop) (w w' : World) : Prop where
  os : w'.os = w.os
  tape : w'.tape = w.tape
  output : w'.output = w.output
  size : w.heap.size ≤ w'.heap.size
  block : ∀ k, k < w.heap.size → ¬ X k → w'.heap[k]? = w.heap[k]?
section
variable {X Y : Nat → Prop} {a b c w w' : World}
theorem Pj.refl (X : Nat → Prop) (w : World) : Pj X w w := ⟨rfl, rfl, rfl, Nat.le_refl _, fun _ _ _ => rfl⟩
theorem Pj.trans (h : Pj X a b) (k : Pj Y b c) (hy : ∀ i, i < a.heap.size → Y i → X i) : Pj X a c :=
  ⟨k.os.trans h.os, k.tape.trans h.tape, k.output.trans h.output, Nat.le_trans h.size k.size, fun i hi hp => (k.block i (Nat.lt_of_lt_of_le hi h.size) (fun y => hp (hy i hi y))).trans (h.block i hi hp)⟩
theorem Pj.mono (h : Pj X a b) (hy : ∀ i, i < a.heap.size → X i → Y i) : Pj Y a b := ⟨h.os, h.tape, h.output, h.size, fun k hk hn => h.block k hk (fun x => hn (hy k hk x))⟩
theorem Pj.of (h : Below w.heap.size w w') : Pj X w w' := ⟨h.os, h.tape, h.output, h.size, fun k hk _ => h.block k hk⟩
theorem Pj.below {B : Nat} (h : Pj X w w') (hb : Below B a w) (hx : ∀ k, X k → B ≤ k) (hB : B ≤ w.heap.size) : Below B a w' :=
  hb.trans ⟨h.os, h.tape, h.output, h.size, fun k hk => h.block k (by omega) (fun x => by have := hx k x; omega)⟩
theorem Pj.set (h : Pj X a w) {q : Addr} (hq : X q.block ∨ a.heap.size ≤ q.block) (u : Value) : Pj X a (w.setCell q u) :=
  ⟨h.os, h.tape, h.output, by have := h.size; simp [World.setCell]; exact this, fun k hk hn => (Below.heap_setCell _ _ _ _ (fun e => by rcases hq with x | x; exact hn (e ▸ x); omega)).trans (h.block k hk hn)⟩
theorem Pj.alloc (h : Pj X a w) (o : Obj) : Pj X a (w.alloc o) := h.trans (Pj.of (X := X) ((Below.refl _ _).alloc (Nat.le_refl _) o)) (fun _ _ x => x)
theorem Pj.more (h : Pj X a b) (k : Below b.heap.size b c) : Pj X a c := h.trans (Pj.of (X := X) k) (fun _ _ x => x)
theorem Pj.grown {row : Option Nat} (h : Pj X a w) (hg : w.grownBy w' row) (hr : ∀ k, row = some k → X k ∨ a.heap.size ≤ k) : Pj X a w' :=
  ⟨hg.os.trans h.os, hg.tape.trans h.tape, hg.output.trans h.output, Nat.le_trans h.size hg.size, fun k hk hn => (hg.block k (Nat.lt_of_lt_of_le hk h.size) (fun e => by rcases hr k e.symm with x | x; exact hn x; omega)).trans (h.block k hk hn)⟩
theorem Pj.blk {n : Nat} {cs : Array Value} {T : TypeId} (h : Pj X w w') (hb : Bj w n cs T) (hn : ¬ X n) : Bj w' n cs T := (h.block n hb.lt hn).trans hb
theorem Pj.cell (h : Pj X w w') {p : Addr} {v : Value} (hc : w.cell? p = some v) (hn : ¬ X p.block) : w'.cell? p = some v := by
  rw [World.cell?_of_block (h.block p.block (vblock_lt hc) hn)]
  exact hc
theorem Pj.drew (h : Pj X a w) : Pj X a w.drew := h.more (Below.refl _ _).drew
end
theorem Bj.seven {w : World} {b : Nat} {T : TypeId} {v0 v1 v2 v3 v4 v5 v6 : Value} (h : Bj w b #[v0, v1, v2, v3, v4, v5, v6] T) : (w.cell? ⟨b, 0, none⟩ = some v0 ∧ w.cell? ⟨b, 1, none⟩ = some v1 ∧ w.cell? ⟨b, 2, none⟩ = some v2 ∧ w.cell? ⟨b, 3, none⟩ = some v3 ∧ w.cell? ⟨b, 4, none⟩ = some v4 ∧ w.cell? ⟨b, 5, none⟩ = some v5 ∧ w.cell? ⟨b, 6, none⟩ = some v6) ∧ (w.frozen? ⟨b, 0, none⟩ = false ∧ w.frozen? ⟨b, 1, none⟩ = false ∧ w.frozen? ⟨b, 2, none⟩ = false ∧ w.frozen? ⟨b, 3, none⟩ = false ∧ w.frozen? ⟨b, 4, none⟩ = false ∧ w.frozen? ⟨b, 5, none⟩ = false ∧ w.frozen? ⟨b, 6, none⟩ = false) :=
  ⟨⟨h.cell 0, h.cell 1, h.cell 2, h.cell 3, h.cell 4, h.cell 5, h.cell 6⟩, h.fr 0, h.fr 1, h.fr 2, h.fr 3, h.fr 4, h.fr 5, h.fr 6⟩
theorem Bj.nine {w : World} {b : Nat} {T : TypeId} {v0 v1 v2 v3 v4 v5 v6 v7 v8 : Value} (h : Bj w b #[v0, v1, v2, v3, v4, v5, v6, v7, v8] T) : (w.cell? ⟨b, 0, none⟩ = some v0 ∧ w.cell? ⟨b, 1, none⟩ = some v1 ∧ w.cell? ⟨b, 2, none⟩ = some v2 ∧ w.cell? ⟨b, 3, none⟩ = some v3 ∧ w.cell? ⟨b, 4, none⟩ = some v4 ∧ w.cell? ⟨b, 5, none⟩ = some v5 ∧ w.cell? ⟨b, 6, none⟩ = some v6 ∧ w.cell? ⟨b, 7, none⟩ = some v7 ∧ w.cell? ⟨b, 8, none⟩ = some v8) ∧ (w.frozen? ⟨b, 0, none⟩ = false ∧ w.frozen? ⟨b, 1, none⟩ = false ∧ w.frozen? ⟨b, 2, none⟩ = false ∧ w.frozen? ⟨b, 3, none⟩ = false ∧ w.frozen? ⟨b, 4, none⟩ = false ∧ w.frozen? ⟨b, 5, none⟩ = false ∧ w.frozen? ⟨b, 6, none⟩ = false ∧ w.frozen? ⟨b, 7, none⟩ = false ∧ w.frozen? ⟨b, 8, none⟩ = false) :=
  ⟨⟨h.cell 0, h.cell 1, h.cell 2, h.cell 3, h.cell 4, h.cell 5, h.cell 6, h.cell 7, h.cell 8⟩, h.fr 0, h.fr 1, h.fr 2, h.fr 3, h.fr 4, h.fr 5, h.fr 6, h.fr 7, h.fr 8⟩
theorem jset_same {w : World} {p : Addr} (v : Value) (h : (w.cell? p).isSome = true) : (w.setCell p v).cell? p = some v := by
  obtain ⟨u, hu⟩ := Option.isSome_iff_exists.mp h
  exact World.cell?_setCell_same w p v hu
theorem Bj.second (w : World) (o : Obj) (cs : Array Value) (T : TypeId) : Bj ((w.alloc o).alloc (.cells cs T)) (w.heap.size + 1) cs T := by
  have := Bj.new (w.alloc o) cs T
  rwa [World.size_alloc] at this
theorem Bj.first (w : World) (o : Obj) (cs : Array Value) (T : TypeId) : Bj ((w.alloc (.cells cs T)).alloc o) w.heap.size cs T := (Bj.new w cs T).more ((Below.refl _ _).alloc (Nat.le_refl _) o)
end Go.Proofs.YtggfblodjanfkaaGreatDoor
end
section
namespace Go.Proofs.YtggfblodjanfkaaGreatDoor
open Go.RowKit
def sans (w : World) (X : Nat → Bool) : World := { w with heap := w.heap.mapIdx fun k o => if X k = true then .cells #[] 0 (0, 0) else o }
theorem sans_size (w : World) (X : Nat → Bool) : (sans w X).heap.size = w.heap.size := by simp [sans]
theorem sans_ne (w : World) (X : Nat → Bool) (k : Nat) (h : X k = false) : (sans w X).heap[k]? = w.heap[k]? := by
  simp [sans, Array.getElem?_mapIdx, h]
theorem sans_in (w : World) (X : Nat → Bool) (k : Nat) (h : X k = true) (hk : k < w.heap.size) : (sans w X).heap[k]? = some (.cells #[] 0 (0, 0)) := by
  simp [sans, h, hk]
theorem sans_cell {w : World} {X : Nat → Bool} {a : Addr} {v : Value} (h : (sans w X).cell? a = some v) : w.cell? a = some v ∧ X a.block = false ∧ a.block < w.heap.size := by
  have hlt := vblock_lt h
  rw [sans_size] at hlt
  have hne : X a.block = false := by
    rcases he : X a.block with _ | _
    · rfl
    · unfold World.cell? at h
      rw [sans_in w X _ he hlt] at h
      simp at h
  exact ⟨by rw [← World.cell?_of_block (sans_ne w X a.block hne)]; exact h, hne, hlt⟩
theorem sans_out {w : World} {X : Nat → Bool} {a : Addr} (h : X a.block = false) : (sans w X).cell? a = w.cell? a := World.cell?_of_block (sans_ne w X a.block h)
def Gos (w : World) (X : Nat → Bool) (w' : World) (X' : Nat → Bool) : Prop := ∀ k, k < w.heap.size → X k = false → X' k = false ∧ w'.heap[k]? = w.heap[k]?
theorem Gos.refl (w : World) (X : Nat → Bool) : Gos w X w X := fun _ _ h => ⟨h, rfl⟩
theorem Gos.trans {w w' w'' : World} {X X' X'' : Nat → Bool} (h : Gos w X w' X') (h' : Gos w' X' w'' X'') (hz : w.heap.size ≤ w'.heap.size) : Gos w X w'' X'' := fun k hk hn => by
  obtain ⟨a, b⟩ := h k hk hn
  obtain ⟨c, d⟩ := h' k (by omega) a
  exact ⟨c, d.trans b⟩
theorem Gos.cell {w w' : World} {X X' : Nat → Bool} (h : Gos w X w' X') (a : Addr) (v : Value) (hc : (sans w X).cell? a = some v) : (sans w' X').cell? a = some v := by
  obtain ⟨h1, h2, h3⟩ := sans_cell hc
  obtain ⟨h4, h5⟩ := h _ h3 h2
  rw [sans_out h4, World.cell?_of_block h5]
  exact h1
theorem Gos.below {w w' : World} {X : Nat → Bool} (h : Below w.heap.size w w') : Gos w X w' X := fun k hk hn => ⟨hn, h.block k hk⟩
theorem Gos.less {w : World} {X X' : Nat → Bool} (h : ∀ k, X' k = true → X k = true) : Gos w X w X' := fun k _ hn => by
  rcases he : X' k with _ | _
  · exact ⟨rfl, rfl⟩
  · rw [h k he] at hn
    cases hn
theorem Gos.grown {w w' : World} {X : Nat → Bool} {row : Option Nat} (h : w.grownBy w' row) (hr : ∀ k, row = some k → X k = true) : Gos w X w' X := fun k hk hn => ⟨hn, h.block k hk (fun e => by rw [hr k e.symm] at hn; cases hn)⟩
theorem Gos.set {w : World} {X : Nat → Bool} {a : Addr} (h : X a.block = true) (u : Value) : Gos w X (w.setCell a u) X := fun k _ hn => ⟨hn, Below.heap_setCell w a u k (fun e => by rw [e, h] at hn; cases hn)⟩
theorem Gos.part {w w' : World} {X : Nat → Bool} (h : Pj (fun k => X k = true) w w') : Gos w X w' X := fun k hk hn => ⟨hn, h.block k hk (fun e => by rw [e] at hn; cases hn)⟩
mutual
theorem ValIs.mono {w w' : World} (hm : ∀ a v, w.cell? a = some v → w'.cell? a = some v) : ∀ (n : ValD) (v : Value), ValIs w n v → ValIs w' n v
  | .mk kind b n s items mems at', v, h => by
    rw [ValIs] at h ⊢
    obtain ⟨p, c, q, d, rfl, ha, hk⟩ := h
    exact ⟨p, c, q, d, rfl, ItemsAt.mono hm items p 0 ha, MemsAt.mono hm mems q 0 hk⟩
theorem ItemsAt.mono {w w' : World} (hm : ∀ a v, w.cell? a = some v → w'.cell? a = some v) : ∀ (l : List ValD) (p : Option Addr) (i : Nat), ItemsAt w p i l → ItemsAt w' p i l
  | [], p, i, _ => by rw [ItemsAt]; trivial
  | k :: r, p, i, h => by
    rw [ItemsAt] at h ⊢
    obtain ⟨⟨a, v0, v1, v2, v3, v4, v5, v6, hp, ⟨h0, h1, h2, h3, h4, h5, h6⟩, hn⟩, hr⟩ := h
    exact ⟨⟨a, v0, v1, v2, v3, v4, v5, v6, hp, ⟨hm _ _ h0, hm _ _ h1, hm _ _ h2, hm _ _ h3, hm _ _ h4, hm _ _ h5, hm _ _ h6⟩, ValIs.mono hm k _ hn⟩, ItemsAt.mono hm r p (i + 1) hr⟩
theorem MemsAt.mono {w w' : World} (hm : ∀ a v, w.cell? a = some v → w'.cell? a = some v) : ∀ (l : List MemD) (p : Option Addr) (i : Nat), MemsAt w p i l → MemsAt w' p i l
  | [], p, i, _ => by rw [MemsAt]; trivial
  | m :: r, p, i, h => by
    rw [MemsAt] at h ⊢
    exact ⟨MemAt.mono hm m p i h.1, MemsAt.mono hm r p (i + 1) h.2⟩
theorem MemAt.mono {w w' : World} (hm : ∀ a v, w.cell? a = some v → w'.cell? a = some v) : ∀ (m : MemD) (p : Option Addr) (i : Nat), MemAt w p i m → MemAt w' p i m
  | .mk key v at', p, i, h => by
    rw [MemAt] at h ⊢
    obtain ⟨a, v0, v1, v2, v3, v4, v5, v6, hp, ⟨h0, h1, h2, h3, h4, h5, h6, h7, h8⟩, hn⟩ := h
    exact ⟨a, v0, v1, v2, v3, v4, v5, v6, hp, ⟨hm _ _ h0, hm _ _ h1, hm _ _ h2, hm _ _ h3, hm _ _ h4, hm _ _ h5, hm _ _ h6, hm _ _ h7, hm _ _ h8⟩, ValIs.mono hm v _ hn⟩
end
theorem ValIs.go {w w' : World} {X X' : Nat → Bool} {n : ValD} {v : Value} (h : ValIs (sans w X) n v) (hg : Gos w X w' X') : ValIs (sans w' X') n v := ValIs.mono (fun a u => hg.cell a u) n v h
theorem ValIs.full {w : World} {X : Nat → Bool} {n : ValD} {v : Value} (h : ValIs (sans w X) n v) : ValIs w n v := ValIs.mono (fun _ _ hc => (sans_cell hc).1) n v h
def low (B : Nat) (k : Nat) : Bool := decide (k < B)
end Go.Proofs.YtggfblodjanfkaaGreatDoor
end
