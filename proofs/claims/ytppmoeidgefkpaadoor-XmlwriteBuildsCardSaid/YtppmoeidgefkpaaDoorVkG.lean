/- Packed from the texts NsA NsD NsE NsG. -/
import Derived.Test.YtppmoeidgefkpaaDoorVShelf
import Derived.Test.YtppmoeidgefkpaaDoorVTextF
import Derived.Test.YtppmoeidgefkpaaDoorVTextK
import Derived.Test.YtppmoeidgefkpaaDoorVTextV
import Derived.Test.YtppmoeidgefkpaaDoorVkD
import Derived.Test.YtppmoeidgefkpaaDoorVkF
import Derived.Lib.CutLaws
import Derived.Lib.IndexLaws
import Derived.Lib.IndexBytes
import Derived.Maps.OwnSet
import Derived.Maps.Own
import Derived.Laws.MakeOwn
import Derived.Deep.AppendSrc
section
namespace Go.Proofs.YtppmoeidgefkpaaDoor
open Go.RowKit
def xmlB : ByteArray := ⟨#[120, 109, 108]⟩
def xmlnsB : ByteArray := ⟨#[120, 109, 108, 110, 115]⟩
def xmlSp : ByteArray := ⟨#[104, 116, 116, 112, 58, 47, 47, 119, 119, 119, 46, 119, 51, 46, 111, 114, 103, 47, 88, 77, 76, 47, 49, 57, 57, 56, 47, 110, 97, 109, 101, 115, 112, 97, 99, 101]⟩
abbrev Sc := List (ByteArray × ByteArray)
def lookB : Sc → ByteArray → Option ByteArray
  | [], q => if q = noB then some noB else none
  | b :: r, q => if b.1 = q then some b.2 else lookB r q
def lookP (sc : Sc) (q : ByteArray) : Option ByteArray := if q = xmlB then some xmlSp else lookB sc q
def badDecl (d va : ByteArray) : Prop := d = xmlB ∨ d = xmlnsB ∨ (d ≠ noB ∧ va = noB)
instance (d va : ByteArray) : Decidable (badDecl d va) := by unfold badDecl; infer_instance
end Go.Proofs.YtppmoeidgefkpaaDoor
end
section
namespace Go.Proofs.YtppmoeidgefkpaaDoor
open Go.RowKit
structure Part (X : Nat → Prop) (w w' : World) : Prop where
  os : w'.os = w.os
  tape : w'.tape = w.tape
  output : w'.output = w.output
  size : w.heap.size ≤ w'.heap.size
  block : ∀ k, k < w.heap.size → ¬ X k → w'.heap[k]? = w.heap[k]?
section
variable {X Y : Nat → Prop} {a b c w w' : World}
theorem Part.refl (X : Nat → Prop) (w : World) : Part X w w := ⟨rfl, rfl, rfl, Nat.le_refl _, fun _ _ _ => rfl⟩
theorem Part.trans (h : Part X a b) (k : Part Y b c) (hy : ∀ i, i < a.heap.size → Y i → X i) : Part X a c :=
  ⟨k.os.trans h.os, k.tape.trans h.tape, k.output.trans h.output, Nat.le_trans h.size k.size, fun i hi hp => (k.block i (Nat.lt_of_lt_of_le hi h.size) (fun y => hp (hy i hi y))).trans (h.block i hi hp)⟩
theorem Part.mono (h : Part X a b) (hy : ∀ i, i < a.heap.size → X i → Y i) : Part Y a b := ⟨h.os, h.tape, h.output, h.size, fun k hk hn => h.block k hk (fun x => hn (hy k hk x))⟩
theorem Part.of (h : Below w.heap.size w w') : Part X w w' := ⟨h.os, h.tape, h.output, h.size, fun k hk _ => h.block k hk⟩
theorem Part.keep {p : Nat} (h : Keep p w w') (hp : X p) : Part X w w' := ⟨h.os, h.tape, h.output, h.size, fun k hk hn => h.block k hk (fun e => hn (e ▸ hp))⟩
theorem Part.below {B : Nat} (h : Part X w w') (hb : Below B a w) (hx : ∀ k, X k → B ≤ k) (hB : B ≤ w.heap.size) : Below B a w' :=
  hb.trans ⟨h.os, h.tape, h.output, h.size, fun k hk => h.block k (by omega) (fun x => by have := hx k x; omega)⟩
theorem Part.set (h : Part X a w) {q : Addr} (hq : X q.block ∨ a.heap.size ≤ q.block) (u : Value) : Part X a (w.setCell q u) :=
  ⟨h.os, h.tape, h.output, by have := h.size; simp [World.setCell]; exact this, fun k hk hn => (Below.heap_setCell _ _ _ _ (fun e => by rcases hq with x | x; exact hn (e ▸ x); omega)).trans (h.block k hk hn)⟩
theorem Part.alloc (h : Part X a w) (o : Obj) : Part X a (w.alloc o) := h.trans (Part.of (X := X) ((Below.refl _ _).alloc (Nat.le_refl _) o)) (fun _ _ x => x)
theorem Part.more (h : Part X a b) (k : Below b.heap.size b c) : Part X a c := h.trans (Part.of (X := X) k) (fun _ _ x => x)
theorem Part.grown {row : Option Nat} (h : Part X a w) (hg : w.grownBy w' row) (hr : ∀ k, row = some k → X k ∨ a.heap.size ≤ k) : Part X a w' :=
  ⟨hg.os.trans h.os, hg.tape.trans h.tape, hg.output.trans h.output, Nat.le_trans h.size hg.size, fun k hk hn => (hg.block k (Nat.lt_of_lt_of_le hk h.size) (fun e => by rcases hr k e.symm with x | x; exact hn x; omega)).trans (h.block k hk hn)⟩
theorem Part.blk {n : Nat} {cs : Array Value} {T : TypeId} (h : Part X w w') (hb : Blk w n cs T) (hn : ¬ X n) : Blk w' n cs T := (h.block n hb.lt hn).trans hb
theorem Part.cell (h : Part X w w') {p : Addr} {v : Value} (hc : w.cell? p = some v) (hn : ¬ X p.block) : w'.cell? p = some v := by
  rw [World.cell?_of_block (h.block p.block (kblock_lt hc) hn)]
  exact hc
theorem Part.drew (h : Part X a w) : Part X a w.drew := h.more (Below.refl _ _).drew
end
theorem row_blk {w : World} {g lo : Nat} {cs : Array Value} {T : TypeId} {k n : Nat} (h : Blk w g cs T) (hs : cs.size = n * k) (hl : lo ≤ g) (hm : n ≤ maxLen) : w.ownsRow lo T k (.slice (some ⟨g, 0, none⟩) n n) n cs.toList :=
  ⟨by simpa using hs, .inr ⟨g, n, cs, rfl, hl, h, Nat.le_refl _, hm, hs, by rw [List.take_of_length_le (by simp; omega)]⟩⟩
mutual
def InIs (w : World) (lo hi : Nat) : NodeD → Value → Prop
  | .mk kind sp nm al kids tx at', v => ∃ va g cs m, v = .agg #[.int .i64 kind, .string sp, .string nm, va, .slice (some ⟨g, 0, none⟩) kids.length kids.length, .string tx, .int .i64 at'] ∧ lo ≤ m ∧ m ≤ hi ∧ w.ownsRow lo 37 4 va al.length (attrsCells al) ∧ (∀ b, va.ownBlock = some b → b < m) ∧ lo ≤ g ∧ g < m ∧ Blk w g cs 25 ∧ cs.size = kids.length * 7 ∧ kids.length ≤ maxLen ∧ InKids w m hi kids cs.toList
def InKids (w : World) (lo hi : Nat) : List NodeD → List Value → Prop
  | [], xs => xs = [] ∧ lo ≤ hi
  | k :: r, xs => ∃ v0 v1 v2 v3 v4 v5 v6 ys m, xs = v0 :: v1 :: v2 :: v3 :: v4 :: v5 :: v6 :: ys ∧ lo ≤ m ∧ m ≤ hi ∧ InIs w lo m k (.agg #[v0, v1, v2, v3, v4, v5, v6]) ∧ InKids w m hi r ys
end
theorem in_eq (w : World) (lo hi : Nat) (n : NodeD) (v : Value) : InIs w lo hi n v ↔ ∃ va g cs m, v = .agg #[.int .i64 n.kind, .string n.sp, .string n.nm, va, .slice (some ⟨g, 0, none⟩) n.kids.length n.kids.length, .string n.tx, .int .i64 n.at'] ∧ lo ≤ m ∧ m ≤ hi ∧ w.ownsRow lo 37 4 va n.al.length (attrsCells n.al) ∧ (∀ b, va.ownBlock = some b → b < m) ∧ lo ≤ g ∧ g < m ∧ Blk w g cs 25 ∧ cs.size = n.kids.length * 7 ∧ n.kids.length ≤ maxLen ∧ InKids w m hi n.kids cs.toList := by
  cases n; rw [InIs]; exact Iff.rfl
mutual
theorem InIs.le {w : World} {lo hi : Nat} : ∀ (n : NodeD) (v : Value), InIs w lo hi n v → lo ≤ hi
  | .mk kind sp nm al kids tx at', v, h => by
    rw [InIs] at h
    obtain ⟨va, g, cs, m, _, h1, h2, _⟩ := h
    omega
theorem InKids.le {w : World} {lo hi : Nat} : ∀ (l : List NodeD) (xs : List Value), InKids w lo hi l xs → lo ≤ hi
  | [], xs, h => by rw [InKids] at h; exact h.2
  | k :: r, xs, h => by
    rw [InKids] at h
    obtain ⟨v0, v1, v2, v3, v4, v5, v6, ys, m, _, h1, h2, _⟩ := h
    omega
end
mutual
theorem InIs.same {w w' : World} {lo hi : Nat} (hs : ∀ k, lo ≤ k → k < hi → w'.heap[k]? = w.heap[k]?) : ∀ (n : NodeD) (v : Value), InIs w lo hi n v → InIs w' lo hi n v
  | .mk kind sp nm al kids tx at', v, h => by
    rw [InIs] at h ⊢
    obtain ⟨va, g, cs, m, rfl, h1, h2, ha, ha', hg, hg', hk, hz, hm, hr⟩ := h
    refine ⟨va, g, cs, m, rfl, h1, h2, rowSame ha (fun b hb => ?_), ha', hg, hg', (hs g hg (by omega)).trans hk, hz, hm, InKids.same (fun k hk1 hk2 => hs k (by omega) hk2) kids _ hr⟩
    have := ha' b hb
    exact hs b (row_kind ha b hb).1 (by omega)
theorem InKids.same {w w' : World} {lo hi : Nat} (hs : ∀ k, lo ≤ k → k < hi → w'.heap[k]? = w.heap[k]?) : ∀ (l : List NodeD) (xs : List Value), InKids w lo hi l xs → InKids w' lo hi l xs
  | [], xs, h => by rw [InKids] at h ⊢; exact h
  | k :: r, xs, h => by
    rw [InKids] at h ⊢
    obtain ⟨v0, v1, v2, v3, v4, v5, v6, ys, m, rfl, h1, h2, hn, hr⟩ := h
    exact ⟨v0, v1, v2, v3, v4, v5, v6, ys, m, rfl, h1, h2, InIs.same (fun k hk1 hk2 => hs k hk1 (by omega)) k _ hn, InKids.same (fun k hk1 hk2 => hs k (by omega) hk2) r ys hr⟩
end
mutual
theorem InIs.fresh {w : World} {lo hi B : Nat} (hB : B ≤ lo) : ∀ (n : NodeD) (v : Value), InIs w lo hi n v → FreshIs w B n v
  | .mk kind sp nm al kids tx at', v, h => by
    rw [InIs] at h
    rw [FreshIs]
    obtain ⟨va, g, cs, m, rfl, h1, h2, ha, ha', hg, hg', hk, hz, hm, hr⟩ := h
    exact ⟨va, _, _, rfl, Go.Joins.ownsRow_le ha hB, row_blk hk hz (by omega) hm, InKids.fresh (by omega) kids _ hr⟩
theorem InKids.fresh {w : World} {lo hi B : Nat} (hB : B ≤ lo) : ∀ (l : List NodeD) (xs : List Value), InKids w lo hi l xs → FreshKids w B l xs
  | [], xs, h => by rw [InKids] at h; rw [FreshKids]; exact h.1
  | k :: r, xs, h => by
    rw [InKids] at h
    rw [FreshKids]
    obtain ⟨v0, v1, v2, v3, v4, v5, v6, ys, m, rfl, h1, h2, hn, hr⟩ := h
    exact ⟨v0, v1, v2, v3, v4, v5, v6, ys, rfl, InIs.fresh hB k _ hn, InKids.fresh (by omega) r ys hr⟩
end
theorem InIs.wide {w : World} {lo hi hi' : Nat} (hl : lo ≤ hi) {n : NodeD} {v : Value} (h : InIs w hi hi' n v) : InIs w lo hi' n v := by
  rw [in_eq] at h ⊢
  obtain ⟨va, g, cs, m, rfl, h1, h2, ha, ha', hg, hg', r⟩ := h
  exact ⟨va, g, cs, m, rfl, by omega, h2, Go.Joins.ownsRow_le ha hl, ha', by omega, hg', r⟩
theorem InKids.snoc {w : World} {hi hi' : Nat} {k : NodeD} {v0 v1 v2 v3 v4 v5 v6 : Value} (hk : InIs w hi hi' k (.agg #[v0, v1, v2, v3, v4, v5, v6])) : ∀ (l : List NodeD) (xs : List Value) (lo : Nat), InKids w lo hi l xs → InKids w lo hi' (l ++ [k]) (xs ++ [v0, v1, v2, v3, v4, v5, v6])
  | [], xs, lo, h => by
    rw [InKids] at h
    obtain ⟨rfl, h⟩ := h
    have hle := hk.le
    rw [List.nil_append, InKids]
    exact ⟨v0, v1, v2, v3, v4, v5, v6, [], hi', rfl, by omega, Nat.le_refl _, hk.wide h, by rw [InKids]; exact ⟨rfl, Nat.le_refl _⟩⟩
  | x :: r, xs, lo, h => by
    have hle := hk.le
    rw [InKids] at h
    obtain ⟨u0, u1, u2, u3, u4, u5, u6, ys, m, rfl, h1, h2, hn, hr⟩ := h
    rw [List.cons_append, InKids]
    exact ⟨u0, u1, u2, u3, u4, u5, u6, ys ++ [v0, v1, v2, v3, v4, v5, v6], m, rfl, h1, by omega, hn, InKids.snoc hk r ys m hr⟩
mutual
theorem InIs.wideR {w : World} {hi hi' : Nat} (hl : hi ≤ hi') : ∀ (n : NodeD) (v : Value) (lo : Nat), InIs w lo hi n v → InIs w lo hi' n v
  | .mk kind sp nm al kids tx at', v, lo, h => by
    rw [InIs] at h ⊢
    obtain ⟨va, g, cs, m, rfl, h1, h2, ha, ha', hg, hg', hk, hz, hm, hr⟩ := h
    exact ⟨va, g, cs, m, rfl, h1, by omega, ha, ha', hg, hg', hk, hz, hm, InKids.wideR hl kids _ m hr⟩
theorem InKids.wideR {w : World} {hi hi' : Nat} (hl : hi ≤ hi') : ∀ (l : List NodeD) (xs : List Value) (lo : Nat), InKids w lo hi l xs → InKids w lo hi' l xs
  | [], xs, lo, h => by rw [InKids] at h ⊢; exact ⟨h.1, by omega⟩
  | k :: r, xs, lo, h => by
    rw [InKids] at h ⊢
    obtain ⟨v0, v1, v2, v3, v4, v5, v6, ys, m, rfl, h1, h2, hn, hr⟩ := h
    exact ⟨v0, v1, v2, v3, v4, v5, v6, ys, m, rfl, h1, by omega, hn, InKids.wideR hl r ys m hr⟩
end
theorem in_val {w : World} {lo hi : Nat} {n : NodeD} {v : Value} (h : InIs w lo hi n v) : ∃ pa ca pk ck, v = .agg #[.int .i64 n.kind, .string n.sp, .string n.nm, .slice pa n.al.length ca, .slice pk n.kids.length ck, .string n.tx, .int .i64 n.at'] := fresh_val (InIs.fresh (Nat.le_refl _) n v h)
theorem InKids.len {w : World} {hi : Nat} : ∀ (l : List NodeD) (xs : List Value) (lo : Nat), InKids w lo hi l xs → xs.length = l.length * 7
  | [], xs, lo, h => by rw [InKids] at h; rw [h.1]; rfl
  | k :: r, xs, lo, h => by
    rw [InKids] at h
    obtain ⟨v0, v1, v2, v3, v4, v5, v6, ys, m, rfl, h1, h2, hn, hr⟩ := h
    have := InKids.len r ys m hr
    simp only [List.length_cons]
    omega
def Off (lo hi z : Nat) (L : List Nat) : Prop := ∀ b ∈ L, b < z ∧ ¬ (lo ≤ b ∧ b < hi)
theorem InIs.off {w : World} {lo hi z : Nat} {L : List Nat} (hL : Off lo hi z L) {n : NodeD} {v : Value} (h : InIs w lo hi n v) : InIs (holes w L) lo hi n v :=
  InIs.same (fun k h1 h2 => holes_ne w L k (fun e => (hL k e).2 ⟨h1, h2⟩)) n v h
end Go.Proofs.YtppmoeidgefkpaaDoor
end
section
namespace Go.Proofs.YtppmoeidgefkpaaDoor
open Go.RowKit Go.Maps
abbrev Fr := List (ByteArray × ByteArray × Nat)
def findF : Fr → ByteArray → Option (ByteArray × Nat)
  | [], _ => none
  | b :: r, q => if b.1 = q then some b.2 else findF r q
def findE : List Fr → ByteArray → Option (ByteArray × Nat)
  | [], _ => none
  | f :: r, q => match findF f q with
    | some x => some x
    | none => findE r q
def nsLit (x : ByteArray × Nat) : DataW Unit := .agg [.lit (.string x.1.data.toList), .lit (.int .i64 (x.2 : Int))]
def frD : Fr → DataW Unit
  | [] => .map []
  | b :: r => (frD r).put (.string b.1.data.toList) (nsLit b.2)
def numF : List ByteArray → ByteArray → Option Nat
  | [], _ => none
  | x :: r, q => if x = q then some r.length else numF r q
def numD : List ByteArray → DataW Unit
  | [] => .map []
  | x :: r => (numD r).put (.string x.data.toList) (.lit (.int .i64 (r.length : Int)))
def nsElem (v : Value) : Option (DataW Unit × List MemPlace) :=
  match v with
  | .agg ⟨[.string s, .int .i64 k]⟩ => some (.agg [.lit (.string s.data.toList), .lit (.int .i64 k)], [])
  | _ => none
def FrMap (w : World) (b : Nat) (f : Fr) : Prop := w.ownsMap Tryd.prog 9 nsElem b f.length (frD f)
def NumMap (w : World) (b : Nat) (N : List ByteArray) : Prop := w.ownsMap Tryd.prog 9 (plainElem Tryd.prog 3) b N.length (numD N)
theorem FrMap.lt {w : World} {b : Nat} {f : Fr} (h : FrMap w b f) : b < w.heap.size := World.ownsMap.lt h
theorem NumMap.lt {w : World} {b : Nat} {f : List ByteArray} (h : NumMap w b f) : b < w.heap.size := World.ownsMap.lt h
theorem FrMap.same {w w' : World} {b : Nat} {f : Fr} (h : FrMap w b f) (hb : w'.heap[b]? = w.heap[b]?) : FrMap w' b f := by
  obtain ⟨es, clock, h1, h2⟩ := h
  exact ⟨es, clock, hb.trans h1, h2⟩
theorem NumMap.same {w w' : World} {b : Nat} {f : List ByteArray} (h : NumMap w b f) (hb : w'.heap[b]? = w.heap[b]?) : NumMap w' b f := by
  obtain ⟨es, clock, h1, h2⟩ := h
  exact ⟨es, clock, hb.trans h1, h2⟩
def EnvOk (N : List ByteArray) (E : List Fr) (sc : Sc) : Prop := ∀ q, (findE E q).map (·.1) = lookP sc q ∧ ∀ x k, findE E q = some (x, k) → numF N x = some k
def NumLe (N N' : List ByteArray) : Prop := ∀ x k, numF N x = some k → numF N' x = some k
theorem NumLe.refl (N : List ByteArray) : NumLe N N := fun _ _ h => h
theorem NumLe.trans {a b c : List ByteArray} (h : NumLe a b) (k : NumLe b c) : NumLe a c := fun x i hx => k x i (h x i hx)
def frS (f : Fr) : Sc := f.map fun x => (x.1, x.2.1)
theorem lookB_app (sc : Sc) (q : ByteArray) : ∀ f : Fr, lookB (frS f ++ sc) q = match findF f q with
    | some x => some x.1
    | none => lookB sc q
  | [] => rfl
  | b :: r => by
    show lookB ((b.1, b.2.1) :: (frS r ++ sc)) q = _
    rw [lookB, findF]
    by_cases h : b.1 = q
    · rw [if_pos h, if_pos h]
    · rw [if_neg h, if_neg h, lookB_app sc q r]
theorem findF_mem (q : ByteArray) : ∀ (f : Fr) (x : ByteArray × Nat), findF f q = some x → (q, x) ∈ f
  | b :: r, x, h => by
    rw [findF] at h
    by_cases h1 : b.1 = q
    · rw [if_pos h1] at h
      injection h with h
      rw [← h, ← h1]
      exact List.mem_cons_self ..
    · rw [if_neg h1] at h
      exact List.mem_cons_of_mem _ (findF_mem q r x h)
theorem EnvOk.push {N : List ByteArray} {E : List Fr} {sc : Sc} (h : EnvOk N E sc) (f : Fr) (hn : ∀ x ∈ f, numF N x.2.1 = some x.2.2) (hx : ∀ x ∈ f, x.1 ≠ xmlB) : EnvOk N (f :: E) (frS f ++ sc) := by
  intro q
  obtain ⟨h1, h2⟩ := h q
  rw [findE]
  unfold lookP at *
  cases hf : findF f q with
  | none =>
    refine ⟨?_, h2⟩
    rw [h1]
    split
    · rfl
    · rw [lookB_app, hf]
  | some x =>
    have hm := findF_mem q f x hf
    refine ⟨?_, fun y k e => ?_⟩
    · rw [if_neg (fun e => hx _ hm e), lookB_app, hf]
      rfl
    · injection e with e
      rw [e] at hm
      exact hn _ hm
theorem EnvOk.nil {N : List ByteArray} {E : List Fr} {sc : Sc} (h : EnvOk N E sc) : EnvOk N E (frS [] ++ sc) := h
theorem EnvOk.le {N N' : List ByteArray} {E : List Fr} {sc : Sc} (h : EnvOk N E sc) (hn : NumLe N N') : EnvOk N' E sc := fun q => ⟨(h q).1, fun x k hx => hn _ _ ((h q).2 x k hx)⟩
end Go.Proofs.YtppmoeidgefkpaaDoor
end
section
namespace Go.Proofs.YtppmoeidgefkpaaDoor
open Go.RowKit
def set7 (cs : Array Value) (o : Nat) (v0 v1 v2 v3 v4 v5 v6 : Value) : Array Value := ((((((cs.setIfInBounds o v0).setIfInBounds (o + 1) v1).setIfInBounds (o + 2) v2).setIfInBounds (o + 3) v3).setIfInBounds (o + 4) v4).setIfInBounds (o + 5) v5).setIfInBounds (o + 6) v6
theorem set7_size (cs : Array Value) (o : Nat) (v0 v1 v2 v3 v4 v5 v6 : Value) : (set7 cs o v0 v1 v2 v3 v4 v5 v6).size = cs.size := by simp [set7]
theorem set7_get (cs : Array Value) (o : Nat) (v0 v1 v2 v3 v4 v5 v6 : Value) (j : Nat) (h : j < o ∨ o + 7 ≤ j) : (set7 cs o v0 v1 v2 v3 v4 v5 v6)[j]? = cs[j]? := by
  unfold set7
  simp only [Array.getElem?_setIfInBounds]
  rw [if_neg (by omega), if_neg (by omega), if_neg (by omega), if_neg (by omega), if_neg (by omega), if_neg (by omega), if_neg (by omega)]
theorem set7_at (cs : Array Value) (o : Nat) (v0 v1 v2 v3 v4 v5 v6 : Value) (h : o + 7 ≤ cs.size) : ∀ j, j < 7 → (set7 cs o v0 v1 v2 v3 v4 v5 v6)[o + j]? = [v0, v1, v2, v3, v4, v5, v6][j]? := by
  intro j hj
  unfold set7
  simp only [Array.getElem?_setIfInBounds, Array.size_setIfInBounds]
  have h7 : j = 0 ∨ j = 1 ∨ j = 2 ∨ j = 3 ∨ j = 4 ∨ j = 5 ∨ j = 6 := by omega
  rcases h7 with rfl | rfl | rfl | rfl | rfl | rfl | rfl
  all_goals simp
  all_goals omega
theorem take_seven (cs : Array Value) (o : Nat) (L : List Value) (hl : L.length = 7) (hs : o + 7 ≤ cs.size) (h : ∀ j, j < 7 → cs[o + j]? = L[j]?) : cs.toList.take (o + 7) = cs.toList.take o ++ L := by
  apply List.ext_getElem?
  intro j
  by_cases hj : j < o
  · rw [List.getElem?_take_of_lt (by omega), List.getElem?_append_left (by simp; omega), List.getElem?_take_of_lt hj]
  · by_cases hj7 : j < o + 7
    · rw [List.getElem?_take_of_lt hj7, List.getElem?_append_right (by simp; omega)]
      have := h (j - o) (by omega)
      rw [show o + (j - o) = j by omega] at this
      simp only [List.length_take, Array.length_toList, Array.getElem?_toList]
      rw [this, Nat.min_eq_left (by omega)]
    · rw [List.getElem?_eq_none (by simp; omega), List.getElem?_eq_none (by simp [hl]; omega)]
theorem set7_take (cs : Array Value) (o : Nat) (v0 v1 v2 v3 v4 v5 v6 : Value) (h : o + 7 ≤ cs.size) : (set7 cs o v0 v1 v2 v3 v4 v5 v6).toList.take (o + 7) = cs.toList.take o ++ [v0, v1, v2, v3, v4, v5, v6] := by
  have h1 : (set7 cs o v0 v1 v2 v3 v4 v5 v6).toList.take o = cs.toList.take o := by
    apply List.ext_getElem?
    intro j
    by_cases hj : j < o
    · rw [List.getElem?_take_of_lt hj, List.getElem?_take_of_lt hj, Array.getElem?_toList, Array.getElem?_toList, set7_get _ _ _ _ _ _ _ _ _ _ (.inl hj)]
    · rw [List.getElem?_eq_none (by simp; omega), List.getElem?_eq_none (by simp; omega)]
  have h2 := set7_at cs o v0 v1 v2 v3 v4 v5 v6 h
  have h3 : o + 7 ≤ (set7 cs o v0 v1 v2 v3 v4 v5 v6).size := by rw [set7_size]; exact h
  rw [← h1]
  generalize set7 cs o v0 v1 v2 v3 v4 v5 v6 = ds at *
  exact take_seven ds o [v0, v1, v2, v3, v4, v5, v6] rfl h3 h2
theorem blk_set7 {w : World} {b : Nat} {cs : Array Value} {T : TypeId} (h : Blk w b cs T) (o : Nat) (v0 v1 v2 v3 v4 v5 v6 : Value) : Blk (((((((w.setCell ⟨b, o, none⟩ v0).setCell ⟨b, o + 1, none⟩ v1).setCell ⟨b, o + 2, none⟩ v2).setCell ⟨b, o + 3, none⟩ v3).setCell ⟨b, o + 4, none⟩ v4).setCell ⟨b, o + 5, none⟩ v5).setCell ⟨b, o + 6, none⟩ v6) b (set7 cs o v0 v1 v2 v3 v4 v5 v6) T :=
  ((((((h.set o v0).set (o + 1) v1).set (o + 2) v2).set (o + 3) v3).set (o + 4) v4).set (o + 5) v5).set (o + 6) v6
theorem part_set7 {X : Nat → Prop} {a w : World} (h : Part X a w) {b : Nat} (hb : X b ∨ a.heap.size ≤ b) (o : Nat) (v0 v1 v2 v3 v4 v5 v6 : Value) : Part X a (((((((w.setCell ⟨b, o, none⟩ v0).setCell ⟨b, o + 1, none⟩ v1).setCell ⟨b, o + 2, none⟩ v2).setCell ⟨b, o + 3, none⟩ v3).setCell ⟨b, o + 4, none⟩ v4).setCell ⟨b, o + 5, none⟩ v5).setCell ⟨b, o + 6, none⟩ v6) :=
  ((((((h.set (q := ⟨b, o, none⟩) hb v0).set (q := ⟨b, o + 1, none⟩) hb v1).set (q := ⟨b, o + 2, none⟩) hb v2).set (q := ⟨b, o + 3, none⟩) hb v3).set (q := ⟨b, o + 4, none⟩) hb v4).set (q := ⟨b, o + 5, none⟩) hb v5).set (q := ⟨b, o + 6, none⟩) hb v6
theorem attrs_news {w : World} {ad : Addr} {al : List AttrD} (h : AttrsAt w (some ad) al) : ∀ j u, (attrsCells al)[j]? = some u → w.cell? (ad.add j) = some u := by
  intro j u hj
  have hlt : j < al.length * 4 := by rw [← attrsCells_len]; exact (List.getElem?_eq_some_iff.1 hj).1
  have hq : j / 4 < al.length := by omega
  obtain ⟨a, ha, h0, h1, h2, h3⟩ := h (j / 4) hq
  cases ha
  have hk := attrsCells_at al (j / 4) hq (j % 4) (Nat.mod_lt _ (by decide))
  rw [show j / 4 * 4 + j % 4 = j by omega, hj] at hk
  rw [Addr.add_add] at h1 h2 h3
  have hm : j % 4 = 0 ∨ j % 4 = 1 ∨ j % 4 = 2 ∨ j % 4 = 3 := by omega
  rcases hm with hm | hm | hm | hm
  all_goals rw [hm] at hk
  · rw [show j / 4 * 4 = j by omega] at h0
    cases hk
    exact h0
  · rw [show j / 4 * 4 + 1 = j by omega] at h1
    cases hk
    exact h1
  · rw [show j / 4 * 4 + 2 = j by omega] at h2
    cases hk
    exact h2
  · rw [show j / 4 * 4 + 3 = j by omega] at h3
    cases hk
    exact h3
theorem attrs_one (al : List AttrD) : ∀ u ∈ attrsCells al, u.oneCell' = true := by
  intro u hu
  obtain ⟨x, _, hx⟩ := List.mem_flatMap.1 hu
  exact attr_one x u hx
theorem madeNode (n : Nat) : (madeCells nodeZs (n * 7)).size = n * 7 := size_madeCells _ _
theorem part_out {X : Nat → Prop} {a w : World} (h : Part X a w) {b : Nat} (hb : X b ∨ a.heap.size ≤ b) (u0 u1 u2 u3 u4 u5 u6 : Value) : Part X a (((((((w.setCell ⟨b, 0, none⟩ u0).setCell ⟨b, 1, none⟩ u1).setCell ⟨b, 2, none⟩ u2).setCell ⟨b, 3, none⟩ u3).setCell ⟨b, 4, none⟩ u4).setCell ⟨b, 5, none⟩ u5).setCell ⟨b, 6, none⟩ u6) := part_set7 h hb 0 u0 u1 u2 u3 u4 u5 u6
structure KC (W3 : World) (mb : Nat) (kids : List NodeD) (wr : World) (i : Nat) (cs : Array Value) : Prop where
  blk : Blk wr mb cs 25
  len : cs.size = kids.length * 7
  done : InKids wr (mb + 1) wr.heap.size (kids.take i) (cs.toList.take (i * 7))
  part : Part (fun k => k = mb) W3 wr
end Go.Proofs.YtppmoeidgefkpaaDoor
end
