/- Packed from the texts NsD. -/
import Derived.Test.YtoehcholbcchcaaDoorUNsA
import Derived.Test.YtoehcholbcchcaaDoorUkF
section
namespace Go.Proofs.YtoehcholbcchcaaDoor
open Go.RowKit
structure Part (X : Nat → Prop) (w w' : World) : Prop where
  os : w'.os = w.os
  tape : w'.tape = w.tape
  output : w'.output = w.output
  size : w.heap.size ≤ w'.heap.size
  block : ∀ k, k < w.heap.size → ¬ X k → w'.heap[k]? = w.heap[k]?
section
variable {X Y : Nat → Prop} {a b c w w' : World}
theorem Part.refl (X : Nat → Prop) (w : World) : Part X w w := ⟨rfl, rfl, rfl, Nat.le_refl _, fun _ _ _ => rfl⟩
theorem Part.trans (h : Part X a b) (k : Part Y b c) (hy : ∀ i, i < a.heap.size → Y i → X i) : Part X a c :=
  ⟨k.os.trans h.os, k.tape.trans h.tape, k.output.trans h.output, Nat.le_trans h.size k.size, fun i hi hp => (k.block i (Nat.lt_of_lt_of_le hi h.size) (fun y => hp (hy i hi y))).trans (h.block i hi hp)⟩
theorem Part.mono (h : Part X a b) (hy : ∀ i, i < a.heap.size → X i → Y i) : Part Y a b := ⟨h.os, h.tape, h.output, h.size, fun k hk hn => h.block k hk (fun x => hn (hy k hk x))⟩
theorem Part.of (h : Below w.heap.size w w') : Part X w w' := ⟨h.os, h.tape, h.output, h.size, fun k hk _ => h.block k hk⟩
theorem Part.keep {p : Nat} (h : Keep p w w') (hp : X p) : Part X w w' := ⟨h.os, h.tape, h.output, h.size, fun k hk hn => h.block k hk (fun e => hn (e ▸ hp))⟩
theorem Part.below {B : Nat} (h : Part X w w') (hb : Below B a w) (hx : ∀ k, X k → B ≤ k) (hB : B ≤ w.heap.size) : Below B a w' :=
  hb.trans ⟨h.os, h.tape, h.output, h.size, fun k hk => h.block k (by omega) (fun x => by have := hx k x; omega)⟩
theorem Part.set (h : Part X a w) {q : Addr} (hq : X q.block ∨ a.heap.size ≤ q.block) (u : Value) : Part X a (w.setCell q u) :=
  ⟨h.os, h.tape, h.output, by have := h.size; simp [World.setCell]; exact this, fun k hk hn => (Below.heap_setCell _ _ _ _ (fun e => by rcases hq with x | x; exact hn (e ▸ x); omega)).trans (h.block k hk hn)⟩
theorem Part.alloc (h : Part X a w) (o : Obj) : Part X a (w.alloc o) := h.trans (Part.of (X := X) ((Below.refl _ _).alloc (Nat.le_refl _) o)) (fun _ _ x => x)
theorem Part.more (h : Part X a b) (k : Below b.heap.size b c) : Part X a c := h.trans (Part.of (X := X) k) (fun _ _ x => x)
theorem Part.grown {row : Option Nat} (h : Part X a w) (hg : w.grownBy w' row) (hr : ∀ k, row = some k → X k ∨ a.heap.size ≤ k) : Part X a w' :=
  ⟨hg.os.trans h.os, hg.tape.trans h.tape, hg.output.trans h.output, Nat.le_trans h.size hg.size, fun k hk hn => (hg.block k (Nat.lt_of_lt_of_le hk h.size) (fun e => by rcases hr k e.symm with x | x; exact hn x; omega)).trans (h.block k hk hn)⟩
theorem Part.blk {n : Nat} {cs : Array Value} {T : TypeId} (h : Part X w w') (hb : Blk w n cs T) (hn : ¬ X n) : Blk w' n cs T := (h.block n hb.lt hn).trans hb
theorem Part.cell (h : Part X w w') {p : Addr} {v : Value} (hc : w.cell? p = some v) (hn : ¬ X p.block) : w'.cell? p = some v := by
  rw [World.cell?_of_block (h.block p.block (kblock_lt hc) hn)]
  exact hc
theorem Part.drew (h : Part X a w) : Part X a w.drew := h.more (Below.refl _ _).drew
end
theorem row_blk {w : World} {g lo : Nat} {cs : Array Value} {T : TypeId} {k n : Nat} (h : Blk w g cs T) (hs : cs.size = n * k) (hl : lo ≤ g) (hm : n ≤ maxLen) : w.ownsRow lo T k (.slice (some ⟨g, 0, none⟩) n n) n cs.toList :=
  ⟨by simpa using hs, .inr ⟨g, n, cs, rfl, hl, h, Nat.le_refl _, hm, hs, by rw [List.take_of_length_le (by simp; omega)]⟩⟩
mutual
def InIs (w : World) (lo hi : Nat) : NodeD → Value → Prop
  | .mk kind sp nm al kids tx at', v => ∃ va g cs m, v = .agg #[.int .i64 kind, .string sp, .string nm, va, .slice (some ⟨g, 0, none⟩) kids.length kids.length, .string tx, .int .i64 at'] ∧ lo ≤ m ∧ m ≤ hi ∧ w.ownsRow lo 43 4 va al.length (attrsCells al) ∧ (∀ b, va.ownBlock = some b → b < m) ∧ lo ≤ g ∧ g < m ∧ Blk w g cs 29 ∧ cs.size = kids.length * 7 ∧ kids.length ≤ maxLen ∧ InKids w m hi kids cs.toList
def InKids (w : World) (lo hi : Nat) : List NodeD → List Value → Prop
  | [], xs => xs = [] ∧ lo ≤ hi
  | k :: r, xs => ∃ v0 v1 v2 v3 v4 v5 v6 ys m, xs = v0 :: v1 :: v2 :: v3 :: v4 :: v5 :: v6 :: ys ∧ lo ≤ m ∧ m ≤ hi ∧ InIs w lo m k (.agg #[v0, v1, v2, v3, v4, v5, v6]) ∧ InKids w m hi r ys
end
theorem in_eq (w : World) (lo hi : Nat) (n : NodeD) (v : Value) : InIs w lo hi n v ↔ ∃ va g cs m, v = .agg #[.int .i64 n.kind, .string n.sp, .string n.nm, va, .slice (some ⟨g, 0, none⟩) n.kids.length n.kids.length, .string n.tx, .int .i64 n.at'] ∧ lo ≤ m ∧ m ≤ hi ∧ w.ownsRow lo 43 4 va n.al.length (attrsCells n.al) ∧ (∀ b, va.ownBlock = some b → b < m) ∧ lo ≤ g ∧ g < m ∧ Blk w g cs 29 ∧ cs.size = n.kids.length * 7 ∧ n.kids.length ≤ maxLen ∧ InKids w m hi n.kids cs.toList := by
  cases n; rw [InIs]; exact Iff.rfl
theorem fresh_eq (w : World) (B : Nat) (n : NodeD) (v : Value) : FreshIs w B n v ↔ ∃ va vk xs, v = .agg #[.int .i64 n.kind, .string n.sp, .string n.nm, va, vk, .string n.tx, .int .i64 n.at'] ∧ w.ownsRow B 43 4 va n.al.length (attrsCells n.al) ∧ w.ownsRow B 29 7 vk n.kids.length xs ∧ FreshKids w B n.kids xs := by
  cases n; rw [FreshIs]; exact Iff.rfl
mutual
theorem InIs.le {w : World} {lo hi : Nat} : ∀ (n : NodeD) (v : Value), InIs w lo hi n v → lo ≤ hi
  | .mk kind sp nm al kids tx at', v, h => by
    rw [InIs] at h
    obtain ⟨va, g, cs, m, _, h1, h2, _⟩ := h
    omega
theorem InKids.le {w : World} {lo hi : Nat} : ∀ (l : List NodeD) (xs : List Value), InKids w lo hi l xs → lo ≤ hi
  | [], xs, h => by rw [InKids] at h; exact h.2
  | k :: r, xs, h => by
    rw [InKids] at h
    obtain ⟨v0, v1, v2, v3, v4, v5, v6, ys, m, _, h1, h2, _⟩ := h
    omega
end
mutual
theorem InIs.same {w w' : World} {lo hi : Nat} (hs : ∀ k, lo ≤ k → k < hi → w'.heap[k]? = w.heap[k]?) : ∀ (n : NodeD) (v : Value), InIs w lo hi n v → InIs w' lo hi n v
  | .mk kind sp nm al kids tx at', v, h => by
    rw [InIs] at h ⊢
    obtain ⟨va, g, cs, m, rfl, h1, h2, ha, ha', hg, hg', hk, hz, hm, hr⟩ := h
    refine ⟨va, g, cs, m, rfl, h1, h2, rowSame ha (fun b hb => ?_), ha', hg, hg', (hs g hg (by omega)).trans hk, hz, hm, InKids.same (fun k hk1 hk2 => hs k (by omega) hk2) kids _ hr⟩
    have := ha' b hb
    exact hs b (row_kind ha b hb).1 (by omega)
theorem InKids.same {w w' : World} {lo hi : Nat} (hs : ∀ k, lo ≤ k → k < hi → w'.heap[k]? = w.heap[k]?) : ∀ (l : List NodeD) (xs : List Value), InKids w lo hi l xs → InKids w' lo hi l xs
  | [], xs, h => by rw [InKids] at h ⊢; exact h
  | k :: r, xs, h => by
    rw [InKids] at h ⊢
    obtain ⟨v0, v1, v2, v3, v4, v5, v6, ys, m, rfl, h1, h2, hn, hr⟩ := h
    exact ⟨v0, v1, v2, v3, v4, v5, v6, ys, m, rfl, h1, h2, InIs.same (fun k hk1 hk2 => hs k hk1 (by omega)) k _ hn, InKids.same (fun k hk1 hk2 => hs k (by omega) hk2) r ys hr⟩
end
mutual
theorem InIs.fresh {w : World} {lo hi B : Nat} (hB : B ≤ lo) : ∀ (n : NodeD) (v : Value), InIs w lo hi n v → FreshIs w B n v
  | .mk kind sp nm al kids tx at', v, h => by
    rw [InIs] at h
    rw [FreshIs]
    obtain ⟨va, g, cs, m, rfl, h1, h2, ha, ha', hg, hg', hk, hz, hm, hr⟩ := h
    exact ⟨va, _, _, rfl, Go.Joins.ownsRow_le ha hB, row_blk hk hz (by omega) hm, InKids.fresh (by omega) kids _ hr⟩
theorem InKids.fresh {w : World} {lo hi B : Nat} (hB : B ≤ lo) : ∀ (l : List NodeD) (xs : List Value), InKids w lo hi l xs → FreshKids w B l xs
  | [], xs, h => by rw [InKids] at h; rw [FreshKids]; exact h.1
  | k :: r, xs, h => by
    rw [InKids] at h
    rw [FreshKids]
    obtain ⟨v0, v1, v2, v3, v4, v5, v6, ys, m, rfl, h1, h2, hn, hr⟩ := h
    exact ⟨v0, v1, v2, v3, v4, v5, v6, ys, rfl, InIs.fresh hB k _ hn, InKids.fresh (by omega) r ys hr⟩
end
theorem InIs.wide {w : World} {lo hi hi' : Nat} (hl : lo ≤ hi) {n : NodeD} {v : Value} (h : InIs w hi hi' n v) : InIs w lo hi' n v := by
  rw [in_eq] at h ⊢
  obtain ⟨va, g, cs, m, rfl, h1, h2, ha, ha', hg, hg', r⟩ := h
  exact ⟨va, g, cs, m, rfl, by omega, h2, Go.Joins.ownsRow_le ha hl, ha', by omega, hg', r⟩
theorem InKids.snoc {w : World} {hi hi' : Nat} {k : NodeD} {v0 v1 v2 v3 v4 v5 v6 : Value} (hk : InIs w hi hi' k (.agg #[v0, v1, v2, v3, v4, v5, v6])) : ∀ (l : List NodeD) (xs : List Value) (lo : Nat), InKids w lo hi l xs → InKids w lo hi' (l ++ [k]) (xs ++ [v0, v1, v2, v3, v4, v5, v6])
  | [], xs, lo, h => by
    rw [InKids] at h
    obtain ⟨rfl, h⟩ := h
    have hle := hk.le
    rw [List.nil_append, InKids]
    exact ⟨v0, v1, v2, v3, v4, v5, v6, [], hi', rfl, by omega, Nat.le_refl _, hk.wide h, by rw [InKids]; exact ⟨rfl, Nat.le_refl _⟩⟩
  | x :: r, xs, lo, h => by
    have hle := hk.le
    rw [InKids] at h
    obtain ⟨u0, u1, u2, u3, u4, u5, u6, ys, m, rfl, h1, h2, hn, hr⟩ := h
    rw [List.cons_append, InKids]
    exact ⟨u0, u1, u2, u3, u4, u5, u6, ys ++ [v0, v1, v2, v3, v4, v5, v6], m, rfl, h1, by omega, hn, InKids.snoc hk r ys m hr⟩
mutual
theorem InIs.wideR {w : World} {hi hi' : Nat} (hl : hi ≤ hi') : ∀ (n : NodeD) (v : Value) (lo : Nat), InIs w lo hi n v → InIs w lo hi' n v
  | .mk kind sp nm al kids tx at', v, lo, h => by
    rw [InIs] at h ⊢
    obtain ⟨va, g, cs, m, rfl, h1, h2, ha, ha', hg, hg', hk, hz, hm, hr⟩ := h
    exact ⟨va, g, cs, m, rfl, h1, by omega, ha, ha', hg, hg', hk, hz, hm, InKids.wideR hl kids _ m hr⟩
theorem InKids.wideR {w : World} {hi hi' : Nat} (hl : hi ≤ hi') : ∀ (l : List NodeD) (xs : List Value) (lo : Nat), InKids w lo hi l xs → InKids w lo hi' l xs
  | [], xs, lo, h => by rw [InKids] at h ⊢; exact ⟨h.1, by omega⟩
  | k :: r, xs, lo, h => by
    rw [InKids] at h ⊢
    obtain ⟨v0, v1, v2, v3, v4, v5, v6, ys, m, rfl, h1, h2, hn, hr⟩ := h
    exact ⟨v0, v1, v2, v3, v4, v5, v6, ys, m, rfl, h1, by omega, hn, InKids.wideR hl r ys m hr⟩
end
theorem in_val {w : World} {lo hi : Nat} {n : NodeD} {v : Value} (h : InIs w lo hi n v) : ∃ pa ca pk ck, v = .agg #[.int .i64 n.kind, .string n.sp, .string n.nm, .slice pa n.al.length ca, .slice pk n.kids.length ck, .string n.tx, .int .i64 n.at'] := fresh_val (InIs.fresh (Nat.le_refl _) n v h)
theorem InKids.len {w : World} {hi : Nat} : ∀ (l : List NodeD) (xs : List Value) (lo : Nat), InKids w lo hi l xs → xs.length = l.length * 7
  | [], xs, lo, h => by rw [InKids] at h; rw [h.1]; rfl
  | k :: r, xs, lo, h => by
    rw [InKids] at h
    obtain ⟨v0, v1, v2, v3, v4, v5, v6, ys, m, rfl, h1, h2, hn, hr⟩ := h
    have := InKids.len r ys m hr
    simp only [List.length_cons]
    omega
def Off (lo hi z : Nat) (L : List Nat) : Prop := ∀ b ∈ L, b < z ∧ ¬ (lo ≤ b ∧ b < hi)
theorem InIs.off {w : World} {lo hi z : Nat} {L : List Nat} (hL : Off lo hi z L) {n : NodeD} {v : Value} (h : InIs w lo hi n v) : InIs (holes w L) lo hi n v :=
  InIs.same (fun k h1 h2 => holes_ne w L k (fun e => (hL k e).2 ⟨h1, h2⟩)) n v h
end Go.Proofs.YtoehcholbcchcaaDoor
end
