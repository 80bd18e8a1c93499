/- Packed from the texts JpD JpA JpE JpH JpT. -/
import Derived.Test.YtbfalppeifkjdaaGreatDoorXLate
import Derived.Test.YtbfalppeifkjdaaGreatDoorXShelf
import Derived.Test.YtbfalppeifkjdaaGreatDoorXkD
import Derived.Test.YtbfalppeifkjdaaGreatDoorXkG
import Derived.Test.YtbfalppeifkjdaaGreatDoorXkJ
import Derived.Test.YtbfalppeifkjdaaGreatDoorXkU
import Derived.Deep.AppendLies
import Derived.Laws.OwnMore
import Derived.ProofKit
import Derived.WalkLawsBesides
import Derived.BigQuiet
import Derived.BigGuard
import Derived.Deep.RegionWith
import Derived.Deep.RegionHeld3
import Derived.WalkKit
import Derived.WalkSmall
import Derived.Lib.ParseIntBTie
import Derived.Lib.SlTrimSet
import Derived.Shelf.Strings.SlTrimAscii
section
namespace Go.Proofs.YtbfalppeifkjdaaGreatDoor
open Go.RowKit
theorem jrow_val {w : World} {B : Nat} {e : TypeId} {s n : Nat} {v : Value} {xs : List Value} (h : w.ownsRow B e s v n xs) : ∃ a c, v = .slice a n c := by
  rcases h.2 with ⟨rfl, rfl⟩ | ⟨g, cap, cur, rfl, _⟩
  · exact ⟨_, _, rfl⟩
  · exact ⟨_, _, rfl⟩
theorem jrow_same {w w' : World} {B : Nat} {e : TypeId} {k n : Nat} {v : Value} {xs : List Value} (h : w.ownsRow B e k v n xs) (hs : ∀ g, v.ownBlock = some g → w'.heap[g]? = w.heap[g]?) : w'.ownsRow B e k v n xs := by
  refine ⟨h.1, ?_⟩
  rcases h.2 with hn | ⟨g, cap, cur, rfl, hb, hg, rest⟩
  · exact .inl hn
  · exact .inr ⟨g, cap, cur, rfl, hb, (hs g rfl).trans hg, rest⟩
theorem jgrown_then {w w1 w2 : World} {r : Option Nat} (h : w.grownBy w1 r) (h' : w1.grownBy w2 r) : w.grownBy w2 r := ⟨h'.os.trans h.os, h'.tape.trans h.tape, h'.output.trans h.output, Nat.le_trans h.size h'.size, fun k hk hr => (h'.block k (Nat.lt_of_lt_of_le hk h.size) hr).trans (h.block k hk hr)⟩
theorem jadd (g o : Nat) : (⟨g, 0, none⟩ : Addr).add o = ⟨g, o, none⟩ := by unfold Addr.add; split <;> simp_all
theorem jset_app {xs : List Value} {m : Nat} (hl : xs.length = m) (ys : List Value) (j : Nat) (u : Value) : (xs ++ ys).set (m + j) u = xs ++ ys.set j u := by rw [List.set_append_right _ _ (by omega), show m + j - xs.length = j by omega]
def VRow (w : World) (X : Nat → Bool) : List ValD → List Value → Prop
  | [], xs => xs = []
  | k :: r, xs => ∃ v0 v1 v2 v3 v4 v5 v6 ys, xs = v0 :: v1 :: v2 :: v3 :: v4 :: v5 :: v6 :: ys ∧ ValIs (sans w X) k (.agg #[v0, v1, v2, v3, v4, v5, v6]) ∧ VRow w X r ys
def MRow (w : World) (X : Nat → Bool) : List MemD → List Value → Prop
  | [], xs => xs = []
  | k :: r, xs => ∃ v0 v1 v2 v3 v4 v5 v6 ys, xs = .string k.key :: v0 :: v1 :: v2 :: v3 :: v4 :: v5 :: v6 :: .int .i64 k.at' :: ys ∧ ValIs (sans w X) k.v (.agg #[v0, v1, v2, v3, v4, v5, v6]) ∧ MRow w X r ys
theorem VRow.go {w w' : World} {X X' : Nat → Bool} (hg : Gos w X w' X') : ∀ (l : List ValD) (xs : List Value), VRow w X l xs → VRow w' X' l xs
  | [], xs, h => by rw [VRow] at h ⊢; exact h
  | k :: r, xs, h => by
    rw [VRow] at h ⊢
    obtain ⟨v0, v1, v2, v3, v4, v5, v6, ys, rfl, hv, hr⟩ := h
    exact ⟨v0, v1, v2, v3, v4, v5, v6, ys, rfl, hv.go hg, VRow.go hg r ys hr⟩
theorem MRow.go {w w' : World} {X X' : Nat → Bool} (hg : Gos w X w' X') : ∀ (l : List MemD) (xs : List Value), MRow w X l xs → MRow w' X' l xs
  | [], xs, h => by rw [MRow] at h ⊢; exact h
  | k :: r, xs, h => by
    rw [MRow] at h ⊢
    obtain ⟨v0, v1, v2, v3, v4, v5, v6, ys, rfl, hv, hr⟩ := h
    exact ⟨v0, v1, v2, v3, v4, v5, v6, ys, rfl, hv.go hg, MRow.go hg r ys hr⟩
theorem VRow.snoc {w : World} {X : Nat → Bool} {k : ValD} {v0 v1 v2 v3 v4 v5 v6 : Value} (hk : ValIs (sans w X) k (.agg #[v0, v1, v2, v3, v4, v5, v6])) : ∀ (l : List ValD) (xs : List Value), VRow w X l xs → VRow w X (l ++ [k]) (xs ++ [v0, v1, v2, v3, v4, v5, v6])
  | [], xs, h => by
    rw [VRow] at h
    subst h
    rw [List.nil_append, VRow]
    exact ⟨v0, v1, v2, v3, v4, v5, v6, [], rfl, hk, by rw [VRow]⟩
  | x :: r, xs, h => by
    rw [VRow] at h
    obtain ⟨u0, u1, u2, u3, u4, u5, u6, ys, rfl, hn, hr⟩ := h
    rw [List.cons_append, VRow]
    exact ⟨u0, u1, u2, u3, u4, u5, u6, ys ++ [v0, v1, v2, v3, v4, v5, v6], rfl, hn, VRow.snoc hk r ys hr⟩
theorem MRow.snoc {w : World} {X : Nat → Bool} {k : MemD} {v0 v1 v2 v3 v4 v5 v6 : Value} (hk : ValIs (sans w X) k.v (.agg #[v0, v1, v2, v3, v4, v5, v6])) : ∀ (l : List MemD) (xs : List Value), MRow w X l xs → MRow w X (l ++ [k]) (xs ++ [.string k.key, v0, v1, v2, v3, v4, v5, v6, .int .i64 k.at'])
  | [], xs, h => by
    rw [MRow] at h
    subst h
    rw [List.nil_append, MRow]
    exact ⟨v0, v1, v2, v3, v4, v5, v6, [], rfl, hk, by rw [MRow]⟩
  | x :: r, xs, h => by
    rw [MRow] at h
    obtain ⟨u0, u1, u2, u3, u4, u5, u6, ys, rfl, hn, hr⟩ := h
    rw [List.cons_append, MRow]
    exact ⟨u0, u1, u2, u3, u4, u5, u6, ys ++ [.string k.key, v0, v1, v2, v3, v4, v5, v6, .int .i64 k.at'], rfl, hn, MRow.snoc hk r ys hr⟩
theorem VRow.lies {w w' : World} {X : Nat → Bool} (hm : ∀ a v, (sans w X).cell? a = some v → w'.cell? a = some v) : ∀ (l : List ValD) (xs : List Value) (j : Nat) (a : Addr), (∀ i u, xs[i]? = some u → w'.cell? (a.add (j * 7 + i)) = some u) → VRow w X l xs → ItemsAt w' (some a) j l
  | [], _, _, _, _, _ => by rw [ItemsAt]; trivial
  | k :: r, xs, j, a, hc, h => by
    rw [VRow] at h
    obtain ⟨v0, v1, v2, v3, v4, v5, v6, ys, rfl, hv, hr⟩ := h
    rw [ItemsAt]
    have h0 := hc 0 v0 rfl
    rw [Nat.add_zero] at h0
    refine ⟨⟨a, v0, v1, v2, v3, v4, v5, v6, rfl, ⟨h0, ?_, ?_, ?_, ?_, ?_, ?_⟩, ValIs.mono hm k _ hv⟩, VRow.lies hm r ys (j + 1) a (fun i u hu => ?_) hr⟩
    · rw [Addr.add_add]; exact hc 1 v1 rfl
    · rw [Addr.add_add]; exact hc 2 v2 rfl
    · rw [Addr.add_add]; exact hc 3 v3 rfl
    · rw [Addr.add_add]; exact hc 4 v4 rfl
    · rw [Addr.add_add]; exact hc 5 v5 rfl
    · rw [Addr.add_add]; exact hc 6 v6 rfl
    · rw [show (j + 1) * 7 + i = j * 7 + (i + 7) by omega]
      exact hc (i + 7) u (by simpa using hu)
theorem MRow.lies {w w' : World} {X : Nat → Bool} (hm : ∀ a v, (sans w X).cell? a = some v → w'.cell? a = some v) : ∀ (l : List MemD) (xs : List Value) (j : Nat) (a : Addr), (∀ i u, xs[i]? = some u → w'.cell? (a.add (j * 9 + i)) = some u) → MRow w X l xs → MemsAt w' (some a) j l
  | [], _, _, _, _, _ => by rw [MemsAt]; trivial
  | k :: r, xs, j, a, hc, h => by
    rw [MRow] at h
    obtain ⟨v0, v1, v2, v3, v4, v5, v6, ys, rfl, hv, hr⟩ := h
    rw [MemsAt, mem_at]
    have h0 := hc 0 (.string k.key) rfl
    rw [Nat.add_zero] at h0
    refine ⟨⟨a, v0, v1, v2, v3, v4, v5, v6, rfl, ⟨h0, ?_, ?_, ?_, ?_, ?_, ?_, ?_, ?_⟩, ValIs.mono hm k.v _ hv⟩, MRow.lies hm r ys (j + 1) a (fun i u hu => ?_) hr⟩
    · rw [Addr.add_add]; exact hc 1 v0 rfl
    · rw [Addr.add_add]; exact hc 2 v1 rfl
    · rw [Addr.add_add]; exact hc 3 v2 rfl
    · rw [Addr.add_add]; exact hc 4 v3 rfl
    · rw [Addr.add_add]; exact hc 5 v4 rfl
    · rw [Addr.add_add]; exact hc 6 v5 rfl
    · rw [Addr.add_add]; exact hc 7 v6 rfl
    · rw [Addr.add_add]; exact hc 8 _ rfl
    · rw [show (j + 1) * 9 + i = j * 9 + (i + 9) by omega]
      exact hc (i + 9) u (by simpa using hu)
def lowx (B : Nat) (g : Option Nat) (k : Nat) : Bool := decide (k < B) || decide (g = some k)
theorem lowx_no {B : Nat} {g : Option Nat} {k : Nat} (h : lowx B g k = false) : B ≤ k ∧ g ≠ some k := by
  unfold lowx at h
  simp only [Bool.or_eq_false_iff, decide_eq_false_iff_not] at h
  exact ⟨by omega, h.2⟩
theorem lowx_ok {B : Nat} {g : Option Nat} {k : Nat} (h : B ≤ k) (h' : g ≠ some k) : lowx B g k = false := by
  unfold lowx
  simp only [Bool.or_eq_false_iff, decide_eq_false_iff_not]
  exact ⟨by omega, h'⟩
theorem low_no {B k : Nat} (h : low B k = false) : B ≤ k := by
  unfold low at h
  simp only [decide_eq_false_iff_not] at h
  omega
theorem low_ok {B k : Nat} (h : B ≤ k) : low B k = false := by
  unfold low
  simp only [decide_eq_false_iff_not]
  omega
theorem VRow.whole {w : World} {B : Nat} {T : TypeId} {p : Option Addr} {n c : Nat} {l : List ValD} {xs : List Value} (ho : w.ownsRow B T 7 (.slice p n c) n xs) (hr : VRow w (lowx B (Value.slice p n c).ownBlock) l xs) (hn : n = l.length) : ItemsAt (sans w (low B)) p 0 l := by
  subst hn
  rcases ho.2 with ⟨h1, h2⟩ | ⟨g, cap, cur, hv, hb, hh, -⟩
  · have : l = [] := List.length_eq_zero_iff.1 h2
    subst this
    rw [ItemsAt]
    trivial
  · injection hv with h1 h2 h3
    subst h1
    refine VRow.lies (X := lowx B (some g)) (fun a v ha => Gos.cell (Gos.less (fun k hk => ?_)) a v ha) l xs 0 _ (fun i u hu => ?_) hr
    · unfold low at hk
      unfold lowx
      simp only [decide_eq_true_eq] at hk
      simp [hk]
    · have hc := World.ownsRow.cells ho (g := g) rfl i u hu
      rw [sans_out (low_ok (by rw [Nat.zero_mul, Nat.zero_add, jadd]; exact hb)), Nat.zero_mul, Nat.zero_add]
      exact hc
theorem MRow.whole {w : World} {B : Nat} {T : TypeId} {p : Option Addr} {n c : Nat} {l : List MemD} {xs : List Value} (ho : w.ownsRow B T 9 (.slice p n c) n xs) (hr : MRow w (lowx B (Value.slice p n c).ownBlock) l xs) (hn : n = l.length) : MemsAt (sans w (low B)) p 0 l := by
  subst hn
  rcases ho.2 with ⟨h1, h2⟩ | ⟨g, cap, cur, hv, hb, hh, -⟩
  · have : l = [] := List.length_eq_zero_iff.1 h2
    subst this
    rw [MemsAt]
    trivial
  · injection hv with h1 h2 h3
    subst h1
    refine MRow.lies (X := lowx B (some g)) (fun a v ha => Gos.cell (Gos.less (fun k hk => ?_)) a v ha) l xs 0 _ (fun i u hu => ?_) hr
    · unfold low at hk
      unfold lowx
      simp only [decide_eq_true_eq] at hk
      simp [hk]
    · have hc := World.ownsRow.cells ho (g := g) rfl i u hu
      rw [sans_out (low_ok (by rw [Nat.zero_mul, Nat.zero_add, jadd]; exact hb)), Nat.zero_mul, Nat.zero_add]
      exact hc
inductive Lres (σ : Type) where
  | err (a e : Int)
  | ok (st : σ) (i : Nat)
end Go.Proofs.YtbfalppeifkjdaaGreatDoor
end
section
namespace Go.Proofs.YtbfalppeifkjdaaGreatDoor
open Go.RowKit
theorem Pj.drewN {X : Nat → Prop} {a w : World} (h : Pj X a w) (n : Nat) : Pj X a (w.drewN n) := h.more ⟨rfl, rfl, rfl, Nat.le_refl _, fun _ _ => rfl⟩
end Go.Proofs.YtbfalppeifkjdaaGreatDoor
end
section
namespace Go.Proofs.YtbfalppeifkjdaaGreatDoor
open Go.RowKit
inductive Ares where
  | err (a e : Int)
  | ok (v : ValD) (j : Nat)
def Jres.to (i : Nat) : Jres → Ares
  | .err a e => .err a e
  | .ok v k => .ok v (i + k)
def hA (l : List UInt8) (i d : Nat) : Ares := (headK (3 * (l.drop i).length + 1) i (l.drop i) d).to i
inductive Akey where
  | err (a e : Int)
  | ok (key : List UInt8) (j : Nat)
def Kres.to (i : Nat) : Kres → Akey
  | .err a e => .err a e
  | .ok key k => .ok key (i + k)
def kA (l : List UInt8) (i : Nat) (keys : List ByteArray) : Akey := (keyK i (l.drop i) keys).to i
end Go.Proofs.YtbfalppeifkjdaaGreatDoor
end
section
namespace Go.Proofs.YtbfalppeifkjdaaGreatDoor
open Go.RowKit
theorem jinfo_value : (Tryz.prog.info? 119).map (fun i => (i.zero, i.size, i.bytes)) = some (some (.agg #[.int .i64 0, .bool false, .int .i64 0, .string ⟨#[]⟩, .slice none 0 0, .slice none 0 0, .int .i64 0]), 7, 96) := by kernel_rfl
end Go.Proofs.YtbfalppeifkjdaaGreatDoor
end
section
namespace Go.Proofs.YtbfalppeifkjdaaGreatDoor
open Go.RowKit
theorem VRow.push {wr w1 W : World} {B n1 g : Nat} {own : Option Nat} {st : List ValD} {xs : List Value} {v : ValD} {v0 v1 v2 v3 v4 v5 v6 : Value} (hr : VRow wr (lowx B own) st xs) (hx : ValIs (sans w1 (low n1)) v (.agg #[v0, v1, v2, v3, v4, v5, v6])) (hB : B ≤ n1) (hn : wr.heap.size ≤ n1) (hz : wr.heap.size ≤ w1.heap.size) (hol : ∀ k, own = some k → k < wr.heap.size) (hat : own = some g ∨ w1.heap.size ≤ g)
    (hold : ∀ k, k < wr.heap.size → B ≤ k → w1.heap[k]? = wr.heap[k]?) (hW : ∀ k, k < w1.heap.size → B ≤ k → own ≠ some k → W.heap[k]? = w1.heap[k]?) : VRow W (lowx B (some g)) (st ++ [v]) (xs ++ [v0, v1, v2, v3, v4, v5, v6]) := by
  refine VRow.snoc (hx.go (fun k hk hno => ?_)) st xs (VRow.go (fun k hk hno => ?_) st xs hr)
  · have hkn := low_no hno
    have ho : own ≠ some k := fun e => by have := hol k e; omega
    exact ⟨lowx_ok (by omega) (fun e => by injection e with e; rcases hat with x | x; exact ho (x.trans (congrArg some e)); omega), hW k hk (by omega) ho⟩
  · obtain ⟨h1, h2⟩ := lowx_no hno
    exact ⟨lowx_ok h1 (fun e => by injection e with e; rcases hat with x | x; exact h2 (x.trans (congrArg some e)); omega), (hW k (by omega) h1 h2).trans (hold k hk h1)⟩
theorem MRow.push {wr w1 W : World} {B n1 g : Nat} {own : Option Nat} {st : List MemD} {xs : List Value} {m : MemD} {v0 v1 v2 v3 v4 v5 v6 : Value} (hr : MRow wr (lowx B own) st xs) (hx : ValIs (sans w1 (low n1)) m.v (.agg #[v0, v1, v2, v3, v4, v5, v6])) (hB : B ≤ n1) (hn : wr.heap.size ≤ n1) (hz : wr.heap.size ≤ w1.heap.size) (hol : ∀ k, own = some k → k < wr.heap.size) (hat : own = some g ∨ w1.heap.size ≤ g)
    (hold : ∀ k, k < wr.heap.size → B ≤ k → w1.heap[k]? = wr.heap[k]?) (hW : ∀ k, k < w1.heap.size → B ≤ k → own ≠ some k → W.heap[k]? = w1.heap[k]?) : MRow W (lowx B (some g)) (st ++ [m]) (xs ++ [.string m.key, v0, v1, v2, v3, v4, v5, v6, .int .i64 m.at']) := by
  refine MRow.snoc (hx.go (fun k hk hno => ?_)) st xs (MRow.go (fun k hk hno => ?_) st xs hr)
  · have hkn := low_no hno
    have ho : own ≠ some k := fun e => by have := hol k e; omega
    exact ⟨lowx_ok (by omega) (fun e => by injection e with e; rcases hat with x | x; exact ho (x.trans (congrArg some e)); omega), hW k hk (by omega) ho⟩
  · obtain ⟨h1, h2⟩ := lowx_no hno
    exact ⟨lowx_ok h1 (fun e => by injection e with e; rcases hat with x | x; exact h2 (x.trans (congrArg some e)); omega), (hW k (by omega) h1 h2).trans (hold k hk h1)⟩
theorem jinfo_mem : (Tryz.prog.info? 188).map (fun i => (i.zero, i.size, i.bytes)) = some (some (.agg #[.string ⟨#[]⟩, .int .i64 0, .bool false, .int .i64 0, .string ⟨#[]⟩, .slice none 0 0, .slice none 0 0, .int .i64 0, .int .i64 0]), 9, 120) := by kernel_rfl
end Go.Proofs.YtbfalppeifkjdaaGreatDoor
end
