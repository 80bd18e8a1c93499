/- Packed from the texts JpD JpE JpF. -/
import Derived.Test.YtdooadalkbghgaaGreatDoorVLate
import Derived.Test.YtdooadalkbghgaaGreatDoorVkJ
import Derived.Test.YtdooadalkbghgaaGreatDoorVkK
import Derived.Deep.AppendLies
import Derived.Laws.OwnMore
import Derived.ProofKit
section
namespace Go.Proofs.YtdooadalkbghgaaGreatDoor
open Go.RowKit
theorem jrow_val {w : World} {B : Nat} {e : TypeId} {s n : Nat} {v : Value} {xs : List Value} (h : w.ownsRow B e s v n xs) : ∃ a c, v = .slice a n c := by
  rcases h.2 with ⟨rfl, rfl⟩ | ⟨g, cap, cur, rfl, _⟩
  · exact ⟨_, _, rfl⟩
  · exact ⟨_, _, rfl⟩
theorem jrow_same {w w' : World} {B : Nat} {e : TypeId} {k n : Nat} {v : Value} {xs : List Value} (h : w.ownsRow B e k v n xs) (hs : ∀ g, v.ownBlock = some g → w'.heap[g]? = w.heap[g]?) : w'.ownsRow B e k v n xs := by
  refine ⟨h.1, ?_⟩
  rcases h.2 with hn | ⟨g, cap, cur, rfl, hb, hg, rest⟩
  · exact .inl hn
  · exact .inr ⟨g, cap, cur, rfl, hb, (hs g rfl).trans hg, rest⟩
theorem jcell_alloc {w : World} {c : Addr} {v : Value} (h : w.cell? c = some v) : ∀ o, (w.alloc o).cell? c = some v := fun o => (((Below.refl w.heap.size w).alloc (Nat.le_refl _) o).cell (vblock_lt h)).trans h
theorem jset_comm (w : World) (p q : Addr) (u v : Value) (h : p.block ≠ q.block) : (w.setCell p u).setCell q v = (w.setCell q v).setCell p u := by
  have he : ∀ k : Nat, ((w.setCell p u).setCell q v).heap[k]? = ((w.setCell q v).setCell p u).heap[k]? := by
    intro k
    unfold World.setCell
    simp only [Array.getElem?_modify]
    by_cases h1 : p.block = k
    · have h2 : ¬ q.block = k := fun e => h (h1.trans e.symm)
      simp [h1, h2]
    · by_cases h2 : q.block = k
      · simp [h1, h2]
      · simp [h1, h2]
  have hh : ((w.setCell p u).setCell q v).heap = ((w.setCell q v).setCell p u).heap := by
    apply Array.ext_getElem?
    exact he
  unfold World.setCell at hh ⊢
  simp only at hh ⊢
  rw [hh]
theorem jgrown_then {w w1 w2 : World} {r : Option Nat} (h : w.grownBy w1 r) (h' : w1.grownBy w2 r) : w.grownBy w2 r := ⟨h'.os.trans h.os, h'.tape.trans h.tape, h'.output.trans h.output, Nat.le_trans h.size h'.size, fun k hk hr => (h'.block k (Nat.lt_of_lt_of_le hk h.size) hr).trans (h.block k hk hr)⟩
theorem jadd (g o : Nat) : (⟨g, 0, none⟩ : Addr).add o = ⟨g, o, none⟩ := by unfold Addr.add; split <;> simp_all
theorem jrow_last {w : World} {B : Nat} {T : TypeId} {k g n cap : Nat} {xs cs : List Value} (hr : w.ownsRow B T k (.slice (some ⟨g, 0, none⟩) (n + 1) cap) (n + 1) (xs ++ cs)) (hl : xs.length = n * k) : ∀ j u, cs[j]? = some u → w.cell? ⟨g, n * k + j, none⟩ = some u := by
  intro j u hu
  have := World.ownsRow.cells hr (g := g) rfl (n * k + j) u (by rw [List.getElem?_append_right (by omega), show n * k + j - xs.length = j by omega]; exact hu)
  rw [jadd] at this
  exact this
theorem jset_app {xs : List Value} {m : Nat} (hl : xs.length = m) (ys : List Value) (j : Nat) (u : Value) : (xs ++ ys).set (m + j) u = xs ++ ys.set j u := by rw [List.set_append_right _ _ (by omega), show m + j - xs.length = j by omega]
theorem jrow_store7 {w : World} {B : Nat} {T : TypeId} {g n cap : Nat} {xs : List Value} {z0 z1 z2 z3 z4 z5 z6 : Value} (hr : w.ownsRow B T 7 (.slice (some ⟨g, 0, none⟩) (n + 1) cap) (n + 1) (xs ++ [z0, z1, z2, z3, z4, z5, z6])) (hl : xs.length = n * 7) (n0 n1 n2 n3 n4 n5 n6 : Value) :
    (((((((w.setCell ⟨g, n * 7, none⟩ n0).setCell ⟨g, n * 7 + 1, none⟩ n1).setCell ⟨g, n * 7 + 2, none⟩ n2).setCell ⟨g, n * 7 + 3, none⟩ n3).setCell ⟨g, n * 7 + 4, none⟩ n4).setCell ⟨g, n * 7 + 5, none⟩ n5).setCell ⟨g, n * 7 + 6, none⟩ n6).ownsRow B T 7 (.slice (some ⟨g, 0, none⟩) (n + 1) cap) (n + 1) (xs ++ [n0, n1, n2, n3, n4, n5, n6]) ∧ w.grownBy (((((((w.setCell ⟨g, n * 7, none⟩ n0).setCell ⟨g, n * 7 + 1, none⟩ n1).setCell ⟨g, n * 7 + 2, none⟩ n2).setCell ⟨g, n * 7 + 3, none⟩ n3).setCell ⟨g, n * 7 + 4, none⟩ n4).setCell ⟨g, n * 7 + 5, none⟩ n5).setCell ⟨g, n * 7 + 6, none⟩ n6) (some g) := by
  have s0 := hr.stored (n * 7) n0
  have s1 := s0.1.stored (n * 7 + 1) n1
  have s2 := s1.1.stored (n * 7 + 2) n2
  have s3 := s2.1.stored (n * 7 + 3) n3
  have s4 := s3.1.stored (n * 7 + 4) n4
  have s5 := s4.1.stored (n * 7 + 5) n5
  have s6 := s5.1.stored (n * 7 + 6) n6
  have e : ((((((((xs ++ [z0, z1, z2, z3, z4, z5, z6]).set (n * 7) n0).set (n * 7 + 1) n1).set (n * 7 + 2) n2).set (n * 7 + 3) n3).set (n * 7 + 4) n4).set (n * 7 + 5) n5).set (n * 7 + 6) n6) = xs ++ [n0, n1, n2, n3, n4, n5, n6] := by
    have h0 := jset_app hl [z0, z1, z2, z3, z4, z5, z6] 0 n0
    rw [Nat.add_zero] at h0
    rw [h0, jset_app hl, jset_app hl, jset_app hl, jset_app hl, jset_app hl, jset_app hl]
    rfl
  have h6 := s6.1
  rw [e] at h6
  exact ⟨h6, jgrown_then (jgrown_then (jgrown_then (jgrown_then (jgrown_then (jgrown_then s0.2 s1.2) s2.2) s3.2) s4.2) s5.2) s6.2⟩
theorem jrow_store9 {w : World} {B : Nat} {T : TypeId} {g n cap : Nat} {xs : List Value} {z0 z1 z2 z3 z4 z5 z6 z7 z8 : Value} (hr : w.ownsRow B T 9 (.slice (some ⟨g, 0, none⟩) (n + 1) cap) (n + 1) (xs ++ [z0, z1, z2, z3, z4, z5, z6, z7, z8])) (hl : xs.length = n * 9) (n0 n1 n2 n3 n4 n5 n6 n7 n8 : Value) :
    (((((((((w.setCell ⟨g, n * 9, none⟩ n0).setCell ⟨g, n * 9 + 1, none⟩ n1).setCell ⟨g, n * 9 + 2, none⟩ n2).setCell ⟨g, n * 9 + 3, none⟩ n3).setCell ⟨g, n * 9 + 4, none⟩ n4).setCell ⟨g, n * 9 + 5, none⟩ n5).setCell ⟨g, n * 9 + 6, none⟩ n6).setCell ⟨g, n * 9 + 7, none⟩ n7).setCell ⟨g, n * 9 + 8, none⟩ n8).ownsRow B T 9 (.slice (some ⟨g, 0, none⟩) (n + 1) cap) (n + 1) (xs ++ [n0, n1, n2, n3, n4, n5, n6, n7, n8]) ∧ w.grownBy (((((((((w.setCell ⟨g, n * 9, none⟩ n0).setCell ⟨g, n * 9 + 1, none⟩ n1).setCell ⟨g, n * 9 + 2, none⟩ n2).setCell ⟨g, n * 9 + 3, none⟩ n3).setCell ⟨g, n * 9 + 4, none⟩ n4).setCell ⟨g, n * 9 + 5, none⟩ n5).setCell ⟨g, n * 9 + 6, none⟩ n6).setCell ⟨g, n * 9 + 7, none⟩ n7).setCell ⟨g, n * 9 + 8, none⟩ n8) (some g) := by
  have s0 := hr.stored (n * 9) n0
  have s1 := s0.1.stored (n * 9 + 1) n1
  have s2 := s1.1.stored (n * 9 + 2) n2
  have s3 := s2.1.stored (n * 9 + 3) n3
  have s4 := s3.1.stored (n * 9 + 4) n4
  have s5 := s4.1.stored (n * 9 + 5) n5
  have s6 := s5.1.stored (n * 9 + 6) n6
  have s7 := s6.1.stored (n * 9 + 7) n7
  have s8 := s7.1.stored (n * 9 + 8) n8
  have e : ((((((((((xs ++ [z0, z1, z2, z3, z4, z5, z6, z7, z8]).set (n * 9) n0).set (n * 9 + 1) n1).set (n * 9 + 2) n2).set (n * 9 + 3) n3).set (n * 9 + 4) n4).set (n * 9 + 5) n5).set (n * 9 + 6) n6).set (n * 9 + 7) n7).set (n * 9 + 8) n8) = xs ++ [n0, n1, n2, n3, n4, n5, n6, n7, n8] := by
    have h0 := jset_app hl [z0, z1, z2, z3, z4, z5, z6, z7, z8] 0 n0
    rw [Nat.add_zero] at h0
    rw [h0, jset_app hl, jset_app hl, jset_app hl, jset_app hl, jset_app hl, jset_app hl, jset_app hl, jset_app hl]
    rfl
  have h8 := s8.1
  rw [e] at h8
  exact ⟨h8, jgrown_then (jgrown_then (jgrown_then (jgrown_then (jgrown_then (jgrown_then (jgrown_then (jgrown_then s0.2 s1.2) s2.2) s3.2) s4.2) s5.2) s6.2) s7.2) s8.2⟩
def VRow (w : World) (X : Nat → Bool) : List ValD → List Value → Prop
  | [], xs => xs = []
  | k :: r, xs => ∃ v0 v1 v2 v3 v4 v5 v6 ys, xs = v0 :: v1 :: v2 :: v3 :: v4 :: v5 :: v6 :: ys ∧ ValIs (sans w X) k (.agg #[v0, v1, v2, v3, v4, v5, v6]) ∧ VRow w X r ys
def MRow (w : World) (X : Nat → Bool) : List MemD → List Value → Prop
  | [], xs => xs = []
  | k :: r, xs => ∃ v0 v1 v2 v3 v4 v5 v6 ys, xs = .string k.key :: v0 :: v1 :: v2 :: v3 :: v4 :: v5 :: v6 :: .int .i64 k.at' :: ys ∧ ValIs (sans w X) k.v (.agg #[v0, v1, v2, v3, v4, v5, v6]) ∧ MRow w X r ys
theorem VRow.go {w w' : World} {X X' : Nat → Bool} (hg : Gos w X w' X') : ∀ (l : List ValD) (xs : List Value), VRow w X l xs → VRow w' X' l xs
  | [], xs, h => by rw [VRow] at h ⊢; exact h
  | k :: r, xs, h => by
    rw [VRow] at h ⊢
    obtain ⟨v0, v1, v2, v3, v4, v5, v6, ys, rfl, hv, hr⟩ := h
    exact ⟨v0, v1, v2, v3, v4, v5, v6, ys, rfl, hv.go hg, VRow.go hg r ys hr⟩
theorem MRow.go {w w' : World} {X X' : Nat → Bool} (hg : Gos w X w' X') : ∀ (l : List MemD) (xs : List Value), MRow w X l xs → MRow w' X' l xs
  | [], xs, h => by rw [MRow] at h ⊢; exact h
  | k :: r, xs, h => by
    rw [MRow] at h ⊢
    obtain ⟨v0, v1, v2, v3, v4, v5, v6, ys, rfl, hv, hr⟩ := h
    exact ⟨v0, v1, v2, v3, v4, v5, v6, ys, rfl, hv.go hg, MRow.go hg r ys hr⟩
theorem VRow.snoc {w : World} {X : Nat → Bool} {k : ValD} {v0 v1 v2 v3 v4 v5 v6 : Value} (hk : ValIs (sans w X) k (.agg #[v0, v1, v2, v3, v4, v5, v6])) : ∀ (l : List ValD) (xs : List Value), VRow w X l xs → VRow w X (l ++ [k]) (xs ++ [v0, v1, v2, v3, v4, v5, v6])
  | [], xs, h => by
    rw [VRow] at h
    subst h
    rw [List.nil_append, VRow]
    exact ⟨v0, v1, v2, v3, v4, v5, v6, [], rfl, hk, by rw [VRow]⟩
  | x :: r, xs, h => by
    rw [VRow] at h
    obtain ⟨u0, u1, u2, u3, u4, u5, u6, ys, rfl, hn, hr⟩ := h
    rw [List.cons_append, VRow]
    exact ⟨u0, u1, u2, u3, u4, u5, u6, ys ++ [v0, v1, v2, v3, v4, v5, v6], rfl, hn, VRow.snoc hk r ys hr⟩
theorem MRow.snoc {w : World} {X : Nat → Bool} {k : MemD} {v0 v1 v2 v3 v4 v5 v6 : Value} (hk : ValIs (sans w X) k.v (.agg #[v0, v1, v2, v3, v4, v5, v6])) : ∀ (l : List MemD) (xs : List Value), MRow w X l xs → MRow w X (l ++ [k]) (xs ++ [.string k.key, v0, v1, v2, v3, v4, v5, v6, .int .i64 k.at'])
  | [], xs, h => by
    rw [MRow] at h
    subst h
    rw [List.nil_append, MRow]
    exact ⟨v0, v1, v2, v3, v4, v5, v6, [], rfl, hk, by rw [MRow]⟩
  | x :: r, xs, h => by
    rw [MRow] at h
    obtain ⟨u0, u1, u2, u3, u4, u5, u6, ys, rfl, hn, hr⟩ := h
    rw [List.cons_append, MRow]
    exact ⟨u0, u1, u2, u3, u4, u5, u6, ys ++ [.string k.key, v0, v1, v2, v3, v4, v5, v6, .int .i64 k.at'], rfl, hn, MRow.snoc hk r ys hr⟩
theorem VRow.lies {w w' : World} {X : Nat → Bool} (hm : ∀ a v, (sans w X).cell? a = some v → w'.cell? a = some v) : ∀ (l : List ValD) (xs : List Value) (j : Nat) (a : Addr), (∀ i u, xs[i]? = some u → w'.cell? (a.add (j * 7 + i)) = some u) → VRow w X l xs → ItemsAt w' (some a) j l
  | [], _, _, _, _, _ => by rw [ItemsAt]; trivial
  | k :: r, xs, j, a, hc, h => by
    rw [VRow] at h
    obtain ⟨v0, v1, v2, v3, v4, v5, v6, ys, rfl, hv, hr⟩ := h
    rw [ItemsAt]
    have h0 := hc 0 v0 rfl
    rw [Nat.add_zero] at h0
    refine ⟨⟨a, v0, v1, v2, v3, v4, v5, v6, rfl, ⟨h0, ?_, ?_, ?_, ?_, ?_, ?_⟩, ValIs.mono hm k _ hv⟩, VRow.lies hm r ys (j + 1) a (fun i u hu => ?_) hr⟩
    · rw [Addr.add_add]; exact hc 1 v1 rfl
    · rw [Addr.add_add]; exact hc 2 v2 rfl
    · rw [Addr.add_add]; exact hc 3 v3 rfl
    · rw [Addr.add_add]; exact hc 4 v4 rfl
    · rw [Addr.add_add]; exact hc 5 v5 rfl
    · rw [Addr.add_add]; exact hc 6 v6 rfl
    · rw [show (j + 1) * 7 + i = j * 7 + (i + 7) by omega]
      exact hc (i + 7) u (by simpa using hu)
theorem MRow.lies {w w' : World} {X : Nat → Bool} (hm : ∀ a v, (sans w X).cell? a = some v → w'.cell? a = some v) : ∀ (l : List MemD) (xs : List Value) (j : Nat) (a : Addr), (∀ i u, xs[i]? = some u → w'.cell? (a.add (j * 9 + i)) = some u) → MRow w X l xs → MemsAt w' (some a) j l
  | [], _, _, _, _, _ => by rw [MemsAt]; trivial
  | k :: r, xs, j, a, hc, h => by
    rw [MRow] at h
    obtain ⟨v0, v1, v2, v3, v4, v5, v6, ys, rfl, hv, hr⟩ := h
    rw [MemsAt, mem_at]
    have h0 := hc 0 (.string k.key) rfl
    rw [Nat.add_zero] at h0
    refine ⟨⟨a, v0, v1, v2, v3, v4, v5, v6, rfl, ⟨h0, ?_, ?_, ?_, ?_, ?_, ?_, ?_, ?_⟩, ValIs.mono hm k.v _ hv⟩, MRow.lies hm r ys (j + 1) a (fun i u hu => ?_) hr⟩
    · rw [Addr.add_add]; exact hc 1 v0 rfl
    · rw [Addr.add_add]; exact hc 2 v1 rfl
    · rw [Addr.add_add]; exact hc 3 v2 rfl
    · rw [Addr.add_add]; exact hc 4 v3 rfl
    · rw [Addr.add_add]; exact hc 5 v4 rfl
    · rw [Addr.add_add]; exact hc 6 v5 rfl
    · rw [Addr.add_add]; exact hc 7 v6 rfl
    · rw [Addr.add_add]; exact hc 8 _ rfl
    · rw [show (j + 1) * 9 + i = j * 9 + (i + 9) by omega]
      exact hc (i + 9) u (by simpa using hu)
def lowx (B : Nat) (g : Option Nat) (k : Nat) : Bool := decide (k < B) || decide (g = some k)
theorem lowx_no {B : Nat} {g : Option Nat} {k : Nat} (h : lowx B g k = false) : B ≤ k ∧ g ≠ some k := by
  unfold lowx at h
  simp only [Bool.or_eq_false_iff, decide_eq_false_iff_not] at h
  exact ⟨by omega, h.2⟩
theorem lowx_ok {B : Nat} {g : Option Nat} {k : Nat} (h : B ≤ k) (h' : g ≠ some k) : lowx B g k = false := by
  unfold lowx
  simp only [Bool.or_eq_false_iff, decide_eq_false_iff_not]
  exact ⟨by omega, h'⟩
theorem low_no {B k : Nat} (h : low B k = false) : B ≤ k := by
  unfold low at h
  simp only [decide_eq_false_iff_not] at h
  omega
theorem low_ok {B k : Nat} (h : B ≤ k) : low B k = false := by
  unfold low
  simp only [decide_eq_false_iff_not]
  omega
theorem VRow.whole {w : World} {B : Nat} {T : TypeId} {p : Option Addr} {n c : Nat} {l : List ValD} {xs : List Value} (ho : w.ownsRow B T 7 (.slice p n c) n xs) (hr : VRow w (lowx B (Value.slice p n c).ownBlock) l xs) (hn : n = l.length) : ItemsAt (sans w (low B)) p 0 l := by
  subst hn
  rcases ho.2 with ⟨h1, h2⟩ | ⟨g, cap, cur, hv, hb, hh, -⟩
  · have : l = [] := List.length_eq_zero_iff.1 h2
    subst this
    rw [ItemsAt]
    trivial
  · injection hv with h1 h2 h3
    subst h1
    refine VRow.lies (X := lowx B (some g)) (fun a v ha => Gos.cell (Gos.less (fun k hk => ?_)) a v ha) l xs 0 _ (fun i u hu => ?_) hr
    · unfold low at hk
      unfold lowx
      simp only [decide_eq_true_eq] at hk
      simp [hk]
    · have hc := World.ownsRow.cells ho (g := g) rfl i u hu
      rw [sans_out (low_ok (by rw [Nat.zero_mul, Nat.zero_add, jadd]; exact hb)), Nat.zero_mul, Nat.zero_add]
      exact hc
theorem MRow.whole {w : World} {B : Nat} {T : TypeId} {p : Option Addr} {n c : Nat} {l : List MemD} {xs : List Value} (ho : w.ownsRow B T 9 (.slice p n c) n xs) (hr : MRow w (lowx B (Value.slice p n c).ownBlock) l xs) (hn : n = l.length) : MemsAt (sans w (low B)) p 0 l := by
  subst hn
  rcases ho.2 with ⟨h1, h2⟩ | ⟨g, cap, cur, hv, hb, hh, -⟩
  · have : l = [] := List.length_eq_zero_iff.1 h2
    subst this
    rw [MemsAt]
    trivial
  · injection hv with h1 h2 h3
    subst h1
    refine MRow.lies (X := lowx B (some g)) (fun a v ha => Gos.cell (Gos.less (fun k hk => ?_)) a v ha) l xs 0 _ (fun i u hu => ?_) hr
    · unfold low at hk
      unfold lowx
      simp only [decide_eq_true_eq] at hk
      simp [hk]
    · have hc := World.ownsRow.cells ho (g := g) rfl i u hu
      rw [sans_out (low_ok (by rw [Nat.zero_mul, Nat.zero_add, jadd]; exact hb)), Nat.zero_mul, Nat.zero_add]
      exact hc
theorem AllL.consD {P : Program} {ops : Array Oper} {Q : Exit → Act → World → Prop} {md : Region.Mode} {S : World → Prop} {D : List Nat} {f : Nat} {l : Array Bool} {a : Act} {w : World} {i : Nat} {o : Oper} {rs : List Nat} (ho : ops[i]? = some o) (hD : i ∈ D)
    (h : ∀ K' : Act → World → Prop, (∀ a w, anyL P md ops Q S D f (l.setIfInBounds i true) a w → K' a w) → if Region.wanted o (yielded ops a.tmps) = true then Oper.wp P o a w K' Q else K' (a.put o.dst undef) w)
    (hs : AllL P md ops Q S D f l a w rs) : AllL P md ops Q S D f l a w (i :: rs) := fun j hj => by
  rcases List.mem_cons.1 hj with rfl | hj
  · exact wpOp_step ho (fun K' hK => h K' (fun a w hW => hK a w ⟨fun e => absurd hD e, hW⟩))
  · exact hs j hj
inductive Lres (σ : Type) where
  | err (a e : Int)
  | ok (st : σ) (i : Nat)
def loopL {σ : Type} (step : σ → Nat → Lres σ) (c : UInt8) (l : List UInt8) : Nat → σ → Bool → Nat → Lres σ
  | 0, _, _, _ => .err 0 0
  | f + 1, st, first, i =>
    if l.length ≤ spP l i then .err l.length 8
    else if l.getD (spP l i) 0 = c then .ok st (spP l i + 1)
    else if first = false ∧ l.getD (spP l i) 0 ≠ 44 then .err (spP l i : Nat) 7
    else match step st (if first then spP l i else spP l i + 1) with
      | .err a e => .err a e
      | .ok st' i' => loopL step c l f st' false i'
end Go.Proofs.YtdooadalkbghgaaGreatDoor
end
section
namespace Go.Proofs.YtdooadalkbghgaaGreatDoor
open Go.RowKit
def FuV (l : List UInt8) : Prop := ∀ f g i d, 3 * l.length + 2 ≤ f → 3 * l.length + 2 ≤ g → valK f i l d = valK g i l d
def FuH (l : List UInt8) : Prop := ∀ f g i d, 3 * l.length + 1 ≤ f → 3 * l.length + 1 ≤ g → headK f i l d = headK g i l d
def FuL (l : List UInt8) : Prop := ∀ f g obj fr items mems i d, 3 * l.length + 3 ≤ f → 3 * l.length + 3 ≤ g → listK f obj fr items mems i l d = listK g obj fr items mems i l d
theorem fuel_head (n : Nat) (hL : ∀ l : List UInt8, l.length + 1 ≤ n → FuL l) (l : List UInt8) (hl : l.length ≤ n) : FuH l := by
  intro f g i d hf hg
  obtain ⟨f, rfl⟩ := Nat.exists_eq_add_of_le (show 1 ≤ f by omega)
  obtain ⟨g, rfl⟩ := Nat.exists_eq_add_of_le (show 1 ≤ g by omega)
  rw [Nat.add_comm 1 f, Nat.add_comm 1 g, headK, headK]
  by_cases h : l = []
  · rw [if_pos h, if_pos h]
  · have hp := List.length_pos_iff.2 h
    have := hL (l.drop (1 + spN (l.drop 1))) (by rw [List.length_drop]; omega) f g (decide (l.getD 0 0 = 123)) i [] [] (i + (1 + spN (l.drop 1))) d (by rw [List.length_drop]; omega) (by rw [List.length_drop]; omega)
    rw [this]
theorem fuel_val (n : Nat) (hH : ∀ l : List UInt8, l.length ≤ n → FuH l) (l : List UInt8) (hl : l.length ≤ n) : FuV l := by
  intro f g i d hf hg
  obtain ⟨f, rfl⟩ := Nat.exists_eq_add_of_le (show 1 ≤ f by omega)
  obtain ⟨g, rfl⟩ := Nat.exists_eq_add_of_le (show 1 ≤ g by omega)
  rw [Nat.add_comm 1 f, Nat.add_comm 1 g, valK, valK]
  rw [hH (l.drop (spN l)) (by rw [List.length_drop]; omega) f g _ d (by rw [List.length_drop]; omega) (by rw [List.length_drop]; omega)]
theorem pre_pos {c : UInt8} {l : List UInt8} (h : [c].isPrefixOf l = true) : 0 < l.length := by
  cases l with
  | nil => simp [List.isPrefixOf] at h
  | cons _ _ => simp
theorem fuel_list (n : Nat) (hV : ∀ l : List UInt8, l.length ≤ n → FuV l) (hL : ∀ l : List UInt8, l.length + 1 ≤ n → FuL l) (l : List UInt8) (hl : l.length ≤ n) : FuL l := by
  intro f g obj fr items mems i d hf hg
  obtain ⟨f, rfl⟩ := Nat.exists_eq_add_of_le (show 1 ≤ f by omega)
  obtain ⟨g, rfl⟩ := Nat.exists_eq_add_of_le (show 1 ≤ g by omega)
  rw [Nat.add_comm 1 f, Nat.add_comm 1 g, listK, listK]
  generalize (if obj then keyK (i + spN l) (l.drop (spN l)) (mems.map MemD.key) else Kres.ok [] 0) = K
  cases K with
  | err a e => rfl
  | ok key k =>
    simp only
    rw [hV (l.drop (spN l + k)) (by rw [List.length_drop]; omega) f g _ (d + 1) (by rw [List.length_drop]; omega) (by rw [List.length_drop]; omega)]
    cases valK g (i + (spN l + k)) (l.drop (spN l + k)) (d + 1) with
    | err a e => rfl
    | ok v kv =>
      simp only
      by_cases h1 : [endB obj].isPrefixOf (l.drop (spN l + k + kv + spN (l.drop (spN l + k + kv)))) = true
      · rw [if_pos h1, if_pos h1]
      · rw [if_neg h1, if_neg h1]
        by_cases h2 : [(44 : UInt8)].isPrefixOf (l.drop (spN l + k + kv + spN (l.drop (spN l + k + kv)))) = true
        · rw [if_pos h2, if_pos h2]
          have hp := pre_pos h2
          rw [List.length_drop] at hp
          rw [hL (l.drop (spN l + k + kv + spN (l.drop (spN l + k + kv)) + 1)) (by rw [List.length_drop]; omega) f g obj fr _ _ _ d (by rw [List.length_drop]; omega) (by rw [List.length_drop]; omega)]
        · rw [if_neg h2, if_neg h2]
theorem fuel_all : ∀ (n : Nat) (l : List UInt8), l.length ≤ n → FuV l ∧ FuH l ∧ FuL l
  | 0, l, hl => by
    have hH : ∀ l : List UInt8, l.length ≤ 0 → FuH l := fuel_head 0 (fun l h => by omega)
    have hV : ∀ l : List UInt8, l.length ≤ 0 → FuV l := fuel_val 0 hH
    exact ⟨hV l hl, hH l hl, fuel_list 0 hV (fun l h => by omega) l hl⟩
  | n + 1, l, hl => by
    have ih : ∀ l : List UInt8, l.length + 1 ≤ n + 1 → FuL l := fun l h => (fuel_all n l (by omega)).2.2
    have hH : ∀ l : List UInt8, l.length ≤ n + 1 → FuH l := fuel_head (n + 1) ih
    have hV : ∀ l : List UInt8, l.length ≤ n + 1 → FuV l := fuel_val (n + 1) hH
    exact ⟨hV l hl, hH l hl, fuel_list (n + 1) hV ih l hl⟩
inductive Ares where
  | err (a e : Int)
  | ok (v : ValD) (j : Nat)
def Jres.to (i : Nat) : Jres → Ares
  | .err a e => .err a e
  | .ok v k => .ok v (i + k)
theorem to_plus (i c : Nat) (R : Jres) : (R.plus c).to i = R.to (i + c) := by
  cases R with
  | err a e => rfl
  | ok v k => show Ares.ok v (i + (c + k)) = Ares.ok v (i + c + k); rw [Nat.add_assoc]
def vA (l : List UInt8) (i d : Nat) : Ares := (valK (3 * (l.drop i).length + 2) i (l.drop i) d).to i
def hA (l : List UInt8) (i d : Nat) : Ares := (headK (3 * (l.drop i).length + 1) i (l.drop i) d).to i
def lA (l : List UInt8) (obj : Bool) (fr : Nat) (items : List ValD) (mems : List MemD) (i d : Nat) : Ares := (listK (3 * (l.drop i).length + 3) obj fr items mems i (l.drop i) d).to i
theorem vA_of (l : List UInt8) (i d f : Nat) (hf : 3 * (l.drop i).length + 2 ≤ f) : (valK f i (l.drop i) d).to i = vA l i d := by
  unfold vA
  rw [(fuel_all _ (l.drop i) (Nat.le_refl _)).1 f _ i d hf (Nat.le_refl _)]
theorem hA_of (l : List UInt8) (i d f : Nat) (hf : 3 * (l.drop i).length + 1 ≤ f) : (headK f i (l.drop i) d).to i = hA l i d := by
  unfold hA
  rw [(fuel_all _ (l.drop i) (Nat.le_refl _)).2.1 f _ i d hf (Nat.le_refl _)]
theorem lA_of (l : List UInt8) (obj : Bool) (fr : Nat) (items : List ValD) (mems : List MemD) (i d f : Nat) (hf : 3 * (l.drop i).length + 3 ≤ f) : (listK f obj fr items mems i (l.drop i) d).to i = lA l obj fr items mems i d := by
  unfold lA
  rw [(fuel_all _ (l.drop i) (Nat.le_refl _)).2.2 f _ obj fr items mems i d hf (Nat.le_refl _)]
theorem vA_eq (l : List UInt8) (i d : Nat) : vA l i d = hA l (spP l i) d := by
  unfold vA
  rw [valK, to_plus, List.drop_drop, spP_spN]
  exact hA_of l _ d _ (by simp only [List.length_drop]; omega)
theorem spP_spP (l : List UInt8) (i : Nat) (h : i ≤ l.length) : spP l (spP l i) = spP l i := by
  have hle := spP_le l i h
  rcases Nat.lt_or_ge (spP l i) l.length with hlt | hge
  · refine spP_no l _ hlt ?_
    have hd : (l.drop i).dropWhile spB = l.drop (spP l i) := by
      rw [spP_spN, ← List.drop_drop]
      have h1 := List.takeWhile_append_dropWhile (p := spB) (l := l.drop i)
      have h2 : ((l.drop i).takeWhile spB ++ (l.drop i).dropWhile spB).drop ((l.drop i).takeWhile spB).length = (l.drop i).dropWhile spB := List.drop_left
      rw [h1] at h2
      exact h2.symm
    have hx := List.drop_eq_getElem_cons hlt
    rw [← hd] at hx
    exact Bool.eq_false_iff.2 (fun e => by
      have := List.head?_dropWhile_not spB (l.drop i)
      rw [hx] at this
      simp only [List.head?_cons] at this
      rw [e] at this
      cases this)
  · exact spP_end l _ hge
theorem vA_skip (l : List UInt8) (i d : Nat) (h : i ≤ l.length) : vA l (spP l i) d = vA l i d := by rw [vA_eq, vA_eq l i d, spP_spP l i h]
theorem getD_dropK (l : List UInt8) (i : Nat) : (l.drop i).getD 0 0 = l.getD i 0 := by
  rw [List.getD_eq_getElem?_getD, List.getD_eq_getElem?_getD, List.getElem?_drop, Nat.add_zero]
inductive Akey where
  | err (a e : Int)
  | ok (key : List UInt8) (j : Nat)
def Kres.to (i : Nat) : Kres → Akey
  | .err a e => .err a e
  | .ok key k => .ok key (i + k)
def kA (l : List UInt8) (i : Nat) (keys : List ByteArray) : Akey := (keyK i (l.drop i) keys).to i
theorem wrongK_drop (l : List UInt8) (i : Nat) (h : i ≤ l.length) : wrongK i (l.drop i) = if l.length ≤ i then ((l.length : Int), 8) else ((i : Int), 7) := by
  rw [← wrongE_drop l i h]
  unfold wrongE
  by_cases hi : l.length ≤ i
  · rw [if_pos hi]
  · rw [if_neg hi]
theorem pre_one (c : UInt8) (l : List UInt8) (i : Nat) : [c].isPrefixOf (l.drop i) = decide (i < l.length ∧ l.getD i 0 = c) := by
  rcases Nat.lt_or_ge i l.length with h | h
  · rw [List.drop_eq_getElem_cons h, List.isPrefixOf_cons_cons, show ([] : List UInt8).isPrefixOf (l.drop (i + 1)) = true from rfl, Bool.and_true, Bool.eq_iff_iff, beq_iff_eq, decide_eq_true_eq, List.getD_eq_getElem?_getD, List.getElem?_eq_getElem h]
    exact ⟨fun e => ⟨h, e.symm⟩, fun e => e.2.symm⟩
  · rw [List.drop_eq_nil_of_le h, show [c].isPrefixOf ([] : List UInt8) = false from rfl]
    exact (decide_eq_false (fun e => by omega)).symm
theorem kA_eq (l : List UInt8) (i : Nat) (keys : List ByteArray) (h : i ≤ l.length) : kA l i keys =
    if l.length ≤ i then .err l.length 8
    else if l.getD i 0 ≠ 34 then .err i 7
    else if (parP l i).2.2 ≠ 0 then .err (parP l i).2.1 (parP l i).2.2
    else if keys.any (fun x => decide (x = ofBytes (parP l i).1)) = true then .err i 10
    else if l.length ≤ spP l (parP l i).2.1.toNat then .err l.length 8
    else if l.getD (spP l (parP l i).2.1.toNat) 0 ≠ 58 then .err (spP l (parP l i).2.1.toNat : Nat) 7
    else .ok (parP l i).1 (spP l (parP l i).2.1.toNat + 1) := by
  unfold kA keyK
  rw [getD_dropK l i]
  by_cases hn : l.length ≤ i
  · rw [if_pos hn, if_pos (by rw [List.getD_eq_getElem?_getD, List.getElem?_eq_none hn]; decide), wrongK_drop l i h, if_pos hn]
    rfl
  · rw [if_neg hn]
    by_cases h34 : l.getD i 0 = 34
    · rw [if_neg (show ¬ l.getD i 0 ≠ 34 from fun e => e h34), if_neg (show ¬ l.getD i 0 ≠ 34 from fun e => e h34)]
      have hp : parP l (i : Int) = parJ i (i + 1) ((l.drop i).drop 1) [] := by
        unfold parP
        rw [if_pos ⟨by omega, by omega, by rw [Int.toNat_natCast]; exact h34⟩, Int.toNat_natCast, List.drop_drop]
      rw [← hp]
      by_cases he : (parP l i).2.2 ≠ 0
      · rw [if_pos he, if_pos he]
        rfl
      · rw [if_neg he, if_neg he]
        by_cases hk : keys.any (fun x => decide (x = ofBytes (parP l i).1)) = true
        · rw [if_pos hk, if_pos hk]
          rfl
        · rw [if_neg hk, if_neg hk]
          have hbd := parJ_end i _ ((l.drop i).drop 1) (i + 1) [] (Nat.le_refl _) (by rw [← hp]; simpa using he)
          rw [← hp] at hbd
          simp only [List.length_drop] at hbd
          obtain ⟨t, ht⟩ : ∃ t : Nat, (parP l i).2.1 = (t : Int) := ⟨_, (Int.toNat_of_nonneg (by omega)).symm⟩
          rw [ht] at hbd ⊢
          simp only [Int.toNat_natCast]
          have e1 : ((t : Int) - (i : Int)).toNat = t - i := by omega
          have e2 : i + (t - i) = t := by omega
          have e3 : i + (t - i + spN (l.drop t)) = spP l t := by rw [spP_spN]; omega
          have hst := spP_le l t (by omega)
          simp only [e1, List.drop_drop, e2, e3]
          rw [pre_one]
          by_cases hc : l.length ≤ spP l t
          · rw [if_neg (by simp; omega), if_pos hc, wrongK_drop l _ hst.2, if_pos hc]
            rfl
          · rw [if_neg hc]
            by_cases hc2 : l.getD (spP l t) 0 = 58
            · rw [if_pos (by simp only [decide_eq_true_eq]; exact ⟨by omega, hc2⟩), if_neg (show ¬ l.getD (spP l t) 0 ≠ 58 from fun e => e hc2)]
              show Akey.ok _ _ = Akey.ok _ _
              rw [show i + (t - i + spN (l.drop t) + 1) = spP l t + 1 by omega]
            · rw [if_neg (by simp only [decide_eq_true_eq]; exact fun e => hc2 e.2), if_pos hc2, wrongK_drop l _ hst.2, if_neg hc]
              rfl
    · rw [if_pos h34, if_pos h34, wrongK_drop l i h, if_neg hn]
      rfl
def stepA (l : List UInt8) (d : Nat) (st : List ValD) (i : Nat) : Lres (List ValD) := match vA l i (d + 1) with
  | .err a e => .err a e
  | .ok v j => .ok (st ++ [v]) j
def stepM (l : List UInt8) (d : Nat) (st : List MemD) (i : Nat) : Lres (List MemD) := match kA l (spP l i) (st.map MemD.key) with
  | .err a e => .err a e
  | .ok key j => match vA l j (d + 1) with
    | .err a e => .err a e
    | .ok v j' => .ok (st ++ [.mk (ofBytes key) v (spP l i : Nat)]) j'
def rA (l : List UInt8) (obj : Bool) (fr : Nat) (items : List ValD) (mems : List MemD) (j d : Nat) : Ares :=
  if l.length ≤ spP l j then .err l.length 8
  else if l.getD (spP l j) 0 = endB obj then .ok (.mk (kindB obj) false 0 ⟨#[]⟩ items mems fr) (spP l j + 1)
  else if l.getD (spP l j) 0 ≠ 44 then .err (spP l j : Nat) 7
  else lA l obj fr items mems (spP l j + 1) d
theorem rest_to (l : List UInt8) (obj : Bool) (fr : Nat) (items : List ValD) (mems : List MemD) (i m d f : Nat) (hj : i + m ≤ l.length) (hf : 3 * ((l.drop i).length) + 2 ≤ f) :
    (if [endB obj].isPrefixOf ((l.drop i).drop (m + spN ((l.drop i).drop m))) = true then Jres.ok (.mk (kindB obj) false 0 ⟨#[]⟩ items mems fr) (m + spN ((l.drop i).drop m) + 1)
     else if [(44 : UInt8)].isPrefixOf ((l.drop i).drop (m + spN ((l.drop i).drop m))) = true then (listK f obj fr items mems (i + (m + spN ((l.drop i).drop m) + 1)) ((l.drop i).drop (m + spN ((l.drop i).drop m) + 1)) d).plus (m + spN ((l.drop i).drop m) + 1)
     else .err (wrongK (i + (m + spN ((l.drop i).drop m))) ((l.drop i).drop (m + spN ((l.drop i).drop m)))).1 (wrongK (i + (m + spN ((l.drop i).drop m))) ((l.drop i).drop (m + spN ((l.drop i).drop m)))).2).to i = rA l obj fr items mems (i + m) d := by
  have hs := spP_le l (i + m) hj
  have e : i + (m + spN (l.drop (i + m))) = spP l (i + m) := by rw [spP_spN]; omega
  have e' : i + (m + spN (l.drop (i + m)) + 1) = spP l (i + m) + 1 := by omega
  simp only [List.drop_drop]
  simp only [e, e']
  rw [pre_one, pre_one]
  unfold rA
  by_cases h1 : l.length ≤ spP l (i + m)
  · rw [if_pos h1, if_neg (by simp; omega), if_neg (by simp; omega), wrongK_drop l _ hs.2, if_pos h1]
    rfl
  · rw [if_neg h1]
    by_cases h2 : l.getD (spP l (i + m)) 0 = endB obj
    · rw [if_pos h2, if_pos (by simp only [decide_eq_true_eq]; exact ⟨by omega, h2⟩)]
      show Ares.ok _ _ = Ares.ok _ _
      rw [e']
    · rw [if_neg h2, if_neg (by simp only [decide_eq_true_eq]; exact fun x => h2 x.2)]
      by_cases h3 : l.getD (spP l (i + m)) 0 = 44
      · rw [if_pos (by simp only [decide_eq_true_eq]; exact ⟨by omega, h3⟩), if_neg (by simpa using h3), to_plus, e']
        exact lA_of l obj fr items mems _ d f (by simp only [List.length_drop] at hf ⊢; omega)
      · rw [if_neg (by simp only [decide_eq_true_eq]; exact fun x => h3 x.2), if_pos h3, wrongK_drop l _ hs.2, if_neg h1]
        rfl
end Go.Proofs.YtdooadalkbghgaaGreatDoor
end
section
namespace Go.Proofs.YtdooadalkbghgaaGreatDoor
open Go.RowKit
def EndK (F : Nat → List UInt8 → Jres) : Prop := ∀ i l v k, F i l = .ok v k → 0 < k ∧ k ≤ l.length
theorem plus_ok {c : Nat} {R : Jres} {v : ValD} {k : Nat} (h : R.plus c = .ok v k) : ∃ k', R = .ok v k' ∧ k = c + k' := by
  cases R with
  | err a e => cases h
  | ok v' k' =>
    have h : Jres.ok v' (c + k') = .ok v k := h
    injection h with h1 h2
    exact ⟨k', by rw [h1], h2.symm⟩
theorem word_end (t : List UInt8) (ht : t ≠ []) (K : Int) (B : Bool) (i : Nat) (l : List UInt8) (v : ValD) (k : Nat) (h : wordK i l t K B = .ok v k) : 0 < k ∧ k ≤ l.length := by
  unfold wordK at h
  split at h
  · rename_i hp
    injection h with h1 h2
    exact ⟨by have := List.length_pos_iff.2 ht; omega, h2 ▸ (List.isPrefixOf_iff_prefix.1 hp).length_le⟩
  · cases h
theorem str_end (i : Nat) (l : List UInt8) (hl : l ≠ []) (v : ValD) (k : Nat) (h : strK i l = .ok v k) : 0 < k ∧ k ≤ l.length := by
  unfold strK at h
  split at h
  · cases h
  · rename_i he
    injection h with h1 h2
    have := parJ_end i _ (l.drop 1) (i + 1) [] (Nat.le_refl _) (by simpa using he)
    rw [List.length_drop] at this
    have := List.length_pos_iff.2 hl
    omega
theorem num_end (i : Nat) (l : List UInt8) (v : ValD) (k : Nat) (h : numK i l = .ok v k) : 0 < k ∧ k ≤ l.length := by
  unfold numK at h
  cases hj : jnumL (l.takeWhile numP) with
  | none => rw [hj] at h; cases h
  | some n =>
    rw [hj] at h
    simp only at h
    injection h with h1 h2
    have hle := (List.takeWhile_prefix numP (l := l)).length_le
    refine ⟨?_, by omega⟩
    rw [← h2, List.length_pos_iff]
    intro e
    rw [e] at hj
    cases hj
theorem key_end (i : Nat) (l : List UInt8) (keys : List ByteArray) (key : List UInt8) (k : Nat) (h : keyK i l keys = .ok key k) : 0 < k ∧ k ≤ l.length := by
  unfold keyK at h
  split at h
  · cases h
  · rename_i h34
    have hl : l ≠ [] := fun e => h34 (by rw [e]; decide)
    have hp := List.length_pos_iff.2 hl
    split at h
    · cases h
    · split at h
      · cases h
      · simp only at h
        split at h
        · rename_i hpre
          injection h with h1 h2
          have := pre_pos hpre
          rw [List.length_drop] at this
          omega
        · cases h
theorem ends : ∀ f, (∀ d, EndK fun i l => valK f i l d) ∧ (∀ d, EndK fun i l => headK f i l d) ∧ ∀ obj fr items mems d, EndK fun i l => listK f obj fr items mems i l d
  | 0 => by
    refine ⟨fun d i l v k h => ?_, fun d i l v k h => ?_, fun obj fr items mems d i l v k h => ?_⟩
    · simp only at h
      rw [valK] at h
      cases h
    · simp only at h
      rw [headK] at h
      cases h
    · simp only at h
      rw [listK] at h
      cases h
  | f + 1 => by
    obtain ⟨ihV, ihH, ihL⟩ := ends f
    refine ⟨fun d i l v k h => ?_, fun d i l v k h => ?_, fun obj fr items mems d i l v k h => ?_⟩
    · simp only at h
      rw [valK] at h
      obtain ⟨k', hk, rfl⟩ := plus_ok h
      have := ihH d _ _ v k' hk
      rw [List.length_drop] at this
      have := spN_le l
      omega
    · simp only at h
      rw [headK] at h
      by_cases hl : l = []
      · rw [if_pos hl] at h; cases h
      rw [if_neg hl] at h
      have hp := List.length_pos_iff.2 hl
      split at h
      · exact word_end _ (by decide) _ _ i l v k h
      split at h
      · exact word_end _ (by decide) _ _ i l v k h
      split at h
      · exact word_end _ (by decide) _ _ i l v k h
      split at h
      · exact str_end i l hl v k h
      split at h
      · split at h
        · cases h
        split at h
        · rename_i hpre
          injection h with h1 h2
          have := pre_pos hpre
          rw [List.length_drop] at this
          omega
        · obtain ⟨k', hk, rfl⟩ := plus_ok h
          have := ihL _ _ _ _ _ _ _ v k' hk
          rw [List.length_drop] at this
          omega
      split at h
      · exact num_end i l v k h
      · cases h
    · simp only at h
      rw [listK] at h
      cases hK : (if obj then keyK (i + spN l) (l.drop (spN l)) (mems.map MemD.key) else Kres.ok [] 0) with
      | err a e => rw [hK] at h; cases h
      | ok key kk =>
        rw [hK] at h
        simp only at h
        have hkk : kk ≤ (l.drop (spN l)).length := by
          cases obj with
          | true => exact (key_end _ _ _ _ _ hK).2
          | false =>
            injection hK with h1 h2
            omega
        rw [List.length_drop] at hkk
        have hsl := spN_le l
        cases hV : valK f (i + (spN l + kk)) (l.drop (spN l + kk)) (d + 1) with
        | err a e => rw [hV] at h; cases h
        | ok v' kv =>
          rw [hV] at h
          simp only at h
          split at h
          · rename_i hpre
            injection h with h1 h2
            have := pre_pos hpre
            rw [List.length_drop] at this
            omega
          · split at h
            · rename_i hpre
              obtain ⟨k', hk, rfl⟩ := plus_ok h
              have h1 := pre_pos hpre
              have h2 := ihL _ _ _ _ _ _ _ v k' hk
              rw [List.length_drop] at h1 h2
              omega
            · cases h
theorem vA_end {l : List UInt8} {i d : Nat} {v : ValD} {j : Nat} (hi : i ≤ l.length) (h : vA l i d = .ok v j) : i < j ∧ j ≤ l.length := by
  unfold vA at h
  cases hR : valK (3 * (l.drop i).length + 2) i (l.drop i) d with
  | err a e => rw [hR] at h; cases h
  | ok v' k =>
    rw [hR] at h
    have h : Ares.ok v' (i + k) = .ok v j := h
    injection h with h1 h2
    have := (ends _).1 d i (l.drop i) v' k hR
    rw [List.length_drop] at this
    omega
theorem kA_end {l : List UInt8} {i : Nat} {keys : List ByteArray} {key : List UInt8} {j : Nat} (hi : i ≤ l.length) (h : kA l i keys = .ok key j) : i < j ∧ j ≤ l.length := by
  unfold kA at h
  cases hR : keyK i (l.drop i) keys with
  | err a e => rw [hR] at h; cases h
  | ok v' k =>
    rw [hR] at h
    have h : Akey.ok v' (i + k) = .ok key j := h
    injection h with h1 h2
    have := key_end i (l.drop i) keys v' k hR
    rw [List.length_drop] at this
    omega
theorem stepA_end {l : List UInt8} {d : Nat} {st st' : List ValD} {i j : Nat} (hi : i ≤ l.length) (h : stepA l d st i = .ok st' j) : i < j ∧ j ≤ l.length := by
  unfold stepA at h
  cases hv : vA l i (d + 1) with
  | err a e => rw [hv] at h; cases h
  | ok v k =>
    rw [hv] at h
    injection h with h1 h2
    exact h2 ▸ vA_end hi hv
theorem stepM_end {l : List UInt8} {d : Nat} {st st' : List MemD} {i j : Nat} (hi : i ≤ l.length) (h : stepM l d st i = .ok st' j) : i < j ∧ j ≤ l.length := by
  have hs := spP_le l i hi
  unfold stepM at h
  cases hk : kA l (spP l i) (st.map MemD.key) with
  | err a e => rw [hk] at h; cases h
  | ok key k =>
    rw [hk] at h
    simp only at h
    have h1 := kA_end hs.2 hk
    cases hv : vA l k (d + 1) with
    | err a e => rw [hv] at h; cases h
    | ok v j' =>
      rw [hv] at h
      injection h with h2 h3
      have := vA_end h1.2 hv
      omega
theorem lA_arr (l : List UInt8) (fr : Nat) (items : List ValD) (mems : List MemD) (i d : Nat) (hi : i ≤ l.length) : lA l false fr items mems i d = match stepA l d items i with
    | .err a e => .err a e
    | .ok st j => rA l false fr st mems j d := by
  have hs := spP_le l i hi
  have hlen : (l.drop i).length = l.length - i := List.length_drop
  unfold lA stepA
  rw [listK]
  simp only [Bool.false_eq_true, if_false]
  have hv : (valK (3 * (l.drop i).length + 2) (i + (spN (l.drop i) + 0)) ((l.drop i).drop (spN (l.drop i) + 0)) (d + 1)).to (spP l i) = vA l i (d + 1) := by
    simp only [Nat.add_zero, List.drop_drop]
    rw [← spP_spN, vA_of l (spP l i) (d + 1) _ (by simp only [List.length_drop]; omega), vA_skip l i _ hi]
  rw [← hv]
  cases hR : valK (3 * (l.drop i).length + 2) (i + (spN (l.drop i) + 0)) ((l.drop i).drop (spN (l.drop i) + 0)) (d + 1) with
  | err a e => rfl
  | ok v k =>
    have he := (ends _).1 (d + 1) _ _ v k hR
    simp only [List.length_drop] at he
    have hsn := spP_spN l i
    have := rest_to l false fr (items ++ [v]) mems i (spN (l.drop i) + 0 + k) d (3 * (l.drop i).length + 2) (by omega) (by omega)
    simp only at this ⊢
    rw [this]
    show rA l false fr (items ++ [v]) mems (i + (spN (l.drop i) + 0 + k)) d = rA l false fr (items ++ [v]) mems (spP l i + k) d
    rw [show i + (spN (l.drop i) + 0 + k) = spP l i + k by omega]
theorem lA_obj (l : List UInt8) (fr : Nat) (items : List ValD) (mems : List MemD) (i d : Nat) (hi : i ≤ l.length) : lA l true fr items mems i d = match stepM l d mems i with
    | .err a e => .err a e
    | .ok st j => rA l true fr items st j d := by
  have hs := spP_le l i hi
  have hlen : (l.drop i).length = l.length - i := List.length_drop
  have hsn := spP_spN l i
  unfold lA stepM
  rw [listK]
  simp only [if_true]
  have hk : (keyK (i + spN (l.drop i)) ((l.drop i).drop (spN (l.drop i))) (mems.map MemD.key)).to (spP l i) = kA l (spP l i) (mems.map MemD.key) := by
    unfold kA
    rw [List.drop_drop, ← hsn]
  rw [← hk]
  cases hK : keyK (i + spN (l.drop i)) ((l.drop i).drop (spN (l.drop i))) (mems.map MemD.key) with
  | err a e => rfl
  | ok key kk =>
    have hke := key_end _ _ _ _ _ hK
    simp only [List.length_drop] at hke
    have hv : (valK (3 * (l.drop i).length + 2) (i + (spN (l.drop i) + kk)) ((l.drop i).drop (spN (l.drop i) + kk)) (d + 1)).to (spP l i + kk) = vA l (spP l i + kk) (d + 1) := by
      rw [List.drop_drop, show i + (spN (l.drop i) + kk) = spP l i + kk by omega]
      exact vA_of l (spP l i + kk) (d + 1) _ (by simp only [List.length_drop]; omega)
    show _ = match (match vA l (spP l i + kk) (d + 1) with
      | .err a e => Lres.err a e
      | .ok v j' => Lres.ok (mems ++ [MemD.mk (ofBytes key) v (spP l i : Nat)]) j') with
      | .err a e => Ares.err a e
      | .ok st j => rA l true fr items st j d
    rw [← hv]
    simp only
    cases hR : valK (3 * (l.drop i).length + 2) (i + (spN (l.drop i) + kk)) ((l.drop i).drop (spN (l.drop i) + kk)) (d + 1) with
    | err a e => rfl
    | ok v k =>
      have he := (ends _).1 (d + 1) _ _ v k hR
      simp only [List.length_drop] at he
      have := rest_to l true fr items (mems ++ [.mk (ofBytes key) v (i + spN (l.drop i) : Nat)]) i (spN (l.drop i) + kk + k) d (3 * (l.drop i).length + 2) (by omega) (by omega)
      simp only at this ⊢
      rw [this]
      show rA l true fr items (mems ++ [.mk (ofBytes key) v (i + spN (l.drop i) : Nat)]) (i + (spN (l.drop i) + kk + k)) d = rA l true fr items (mems ++ [.mk (ofBytes key) v (spP l i : Nat)]) (spP l i + kk + k) d
      rw [show i + (spN (l.drop i) + kk + k) = spP l i + kk + k by omega, hsn]
theorem hA_end (l : List UInt8) (u d : Nat) (h : l.length ≤ u) : hA l u d = .err u 8 := by
  unfold hA
  rw [List.drop_eq_nil_of_le h, headK, if_pos rfl]
  rfl
theorem hA_eq (l : List UInt8) (u d : Nat) (h : u < l.length) : hA l u d =
    if l.getD u 0 = 110 then (wordK u (l.drop u) [110, 117, 108, 108] 0 false).to u
    else if l.getD u 0 = 116 then (wordK u (l.drop u) [116, 114, 117, 101] 1 true).to u
    else if l.getD u 0 = 102 then (wordK u (l.drop u) [102, 97, 108, 115, 101] 1 false).to u
    else if l.getD u 0 = 34 then (strK u (l.drop u)).to u
    else if l.getD u 0 = 91 ∨ l.getD u 0 = 123 then
      (if d > 100 then .err u 9
       else if spP l (u + 1) < l.length ∧ l.getD (spP l (u + 1)) 0 = endB (decide (l.getD u 0 = 123)) then .ok (.mk (kindB (decide (l.getD u 0 = 123))) false 0 ⟨#[]⟩ [] [] u) (spP l (u + 1) + 1)
       else lA l (decide (l.getD u 0 = 123)) u [] [] (spP l (u + 1)) d)
    else if l.getD u 0 = 45 ∨ (48 ≤ (l.getD u 0).toNat ∧ (l.getD u 0).toNat ≤ 57) then (numK u (l.drop u)).to u
    else .err u 7 := by
  have hne : l.drop u ≠ [] := fun e => by
    have := congrArg List.length e
    rw [List.length_drop] at this
    simp at this
    omega
  unfold hA
  rw [headK, if_neg hne, getD_dropK]
  have hsu := spP_spN l (u + 1)
  have hs := spP_le l (u + 1) (by omega)
  have e1 : u + (1 + spN ((l.drop u).drop 1)) = spP l (u + 1) := by rw [List.drop_drop]; omega
  split
  · rfl
  split
  · rfl
  split
  · rfl
  split
  · rfl
  split
  · split
    · rfl
    · rw [List.drop_drop, e1, pre_one]
      by_cases hc : spP l (u + 1) < l.length ∧ l.getD (spP l (u + 1)) 0 = endB (decide (l.getD u 0 = 123))
      · rw [if_pos (decide_eq_true hc), if_pos hc]
        show Ares.ok _ _ = Ares.ok _ _
        rw [← e1]
        rfl
      · rw [if_neg (by rw [decide_eq_false hc]; decide), if_neg hc, to_plus, e1]
        exact lA_of l _ u [] [] _ d _ (by simp only [List.length_drop]; omega)
  split
  · rfl
  · rfl
def Lres.arr (fr : Nat) : Lres (List ValD) → Ares
  | .err a e => .err a e
  | .ok st j => .ok (.mk 4 false 0 ⟨#[]⟩ st [] fr) j
def Lres.obj (fr : Nat) : Lres (List MemD) → Ares
  | .err a e => .err a e
  | .ok st j => .ok (.mk 5 false 0 ⟨#[]⟩ [] st fr) j
theorem loop_arr (l : List UInt8) (fr d : Nat) : ∀ (g : Nat) (st : List ValD) (i : Nat), i ≤ l.length → l.length - i < g → (loopL (stepA l d) 93 l g st false i).arr fr = rA l false fr st [] i d
  | 0, _, _, _, h => absurd h (by omega)
  | g + 1, st, i, hi, h => by
    have hs := spP_le l i hi
    unfold rA
    rw [loopL]
    by_cases h1 : l.length ≤ spP l i
    · rw [if_pos h1, if_pos h1]
      rfl
    rw [if_neg h1, if_neg h1]
    by_cases h2 : l.getD (spP l i) 0 = 93
    · rw [if_pos h2, if_pos (show l.getD (spP l i) 0 = endB false from h2)]
      rfl
    rw [if_neg h2, if_neg (show ¬ l.getD (spP l i) 0 = endB false from h2)]
    by_cases h3 : l.getD (spP l i) 0 = 44
    · rw [if_neg (show ¬ (false = false ∧ l.getD (spP l i) 0 ≠ 44) from fun e => e.2 h3), if_neg (show ¬ l.getD (spP l i) 0 ≠ 44 from fun e => e h3), if_neg (show ¬ false = true by decide), lA_arr l fr st [] _ d (by omega)]
      cases hS : stepA l d st (spP l i + 1) with
      | err a e => rfl
      | ok st' j =>
        have := stepA_end (by omega) hS
        exact loop_arr l fr d g st' j this.2 (by omega)
    · rw [if_pos ⟨rfl, h3⟩, if_pos h3]
      rfl
theorem loop_obj (l : List UInt8) (fr d : Nat) : ∀ (g : Nat) (st : List MemD) (i : Nat), i ≤ l.length → l.length - i < g → (loopL (stepM l d) 125 l g st false i).obj fr = rA l true fr [] st i d
  | 0, _, _, _, h => absurd h (by omega)
  | g + 1, st, i, hi, h => by
    have hs := spP_le l i hi
    unfold rA
    rw [loopL]
    by_cases h1 : l.length ≤ spP l i
    · rw [if_pos h1, if_pos h1]
      rfl
    rw [if_neg h1, if_neg h1]
    by_cases h2 : l.getD (spP l i) 0 = 125
    · rw [if_pos h2, if_pos (show l.getD (spP l i) 0 = endB true from h2)]
      rfl
    rw [if_neg h2, if_neg (show ¬ l.getD (spP l i) 0 = endB true from h2)]
    by_cases h3 : l.getD (spP l i) 0 = 44
    · rw [if_neg (show ¬ (false = false ∧ l.getD (spP l i) 0 ≠ 44) from fun e => e.2 h3), if_neg (show ¬ l.getD (spP l i) 0 ≠ 44 from fun e => e h3), if_neg (show ¬ false = true by decide), lA_obj l fr [] st _ d (by omega)]
      cases hS : stepM l d st (spP l i + 1) with
      | err a e => rfl
      | ok st' j =>
        have := stepM_end (by omega) hS
        exact loop_obj l fr d g st' j this.2 (by omega)
    · rw [if_pos ⟨rfl, h3⟩, if_pos h3]
      rfl
theorem hA_arr (l : List UInt8) (u d : Nat) (h : u < l.length) (hc : l.getD u 0 = 91) (hd : d ≤ 100) : hA l u d = (loopL (stepA l d) 93 l (l.length + 1) [] true (u + 1)).arr u := by
  have hs := spP_le l (u + 1) (by omega)
  rw [hA_eq l u d h, hc, if_neg (by decide), if_neg (by decide), if_neg (by decide), if_neg (by decide), if_pos (.inl rfl), if_neg (by omega), show decide ((91 : UInt8) = 123) = false from rfl, loopL]
  by_cases h1 : l.length ≤ spP l (u + 1)
  · rw [if_pos h1, if_neg (fun e => by omega), lA_arr l u [] [] _ d hs.2]
    have : stepA l d [] (spP l (u + 1)) = .err l.length 8 := by
      unfold stepA
      rw [vA_eq, spP_end l _ h1, hA_end l _ _ h1, show spP l (u + 1) = l.length by omega]
    rw [this]
    rfl
  rw [if_neg h1]
  by_cases h2 : l.getD (spP l (u + 1)) 0 = 93
  · rw [if_pos h2, if_pos ⟨by omega, h2⟩]
    rfl
  rw [if_neg h2, if_neg (fun e => h2 e.2), if_neg (fun e => by cases e.1), if_pos rfl, lA_arr l u [] [] _ d hs.2]
  cases hS : stepA l d [] (spP l (u + 1)) with
  | err a e => rfl
  | ok st' j =>
    have := stepA_end (by omega) hS
    exact (loop_arr l u d _ st' j this.2 (by omega)).symm
theorem hA_obj (l : List UInt8) (u d : Nat) (h : u < l.length) (hc : l.getD u 0 = 123) (hd : d ≤ 100) : hA l u d = (loopL (stepM l d) 125 l (l.length + 1) [] true (u + 1)).obj u := by
  have hs := spP_le l (u + 1) (by omega)
  rw [hA_eq l u d h, hc, if_neg (by decide), if_neg (by decide), if_neg (by decide), if_neg (by decide), if_pos (.inr rfl), if_neg (by omega), show decide ((123 : UInt8) = 123) = true from rfl, loopL]
  by_cases h1 : l.length ≤ spP l (u + 1)
  · rw [if_pos h1, if_neg (fun e => by omega), lA_obj l u [] [] _ d hs.2]
    have : stepM l d [] (spP l (u + 1)) = .err l.length 8 := by
      unfold stepM
      rw [spP_end l _ h1, kA_eq l _ _ hs.2, if_pos h1]
    rw [this]
    rfl
  rw [if_neg h1]
  by_cases h2 : l.getD (spP l (u + 1)) 0 = 125
  · rw [if_pos h2, if_pos ⟨by omega, h2⟩]
    rfl
  rw [if_neg h2, if_neg (fun e => h2 e.2), if_neg (fun e => by cases e.1), if_pos rfl, lA_obj l u [] [] _ d hs.2]
  cases hS : stepM l d [] (spP l (u + 1)) with
  | err a e => rfl
  | ok st' j =>
    have := stepM_end (by omega) hS
    exact (loop_obj l u d _ st' j this.2 (by omega)).symm
end Go.Proofs.YtdooadalkbghgaaGreatDoor
end
