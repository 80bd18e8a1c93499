/- Packed from the texts Keep TokD TagA TokR. -/
import Derived.Test.YtoehcholbcchcaaDoorUBldr
import Derived.Test.YtoehcholbcchcaaDoorUEscC
import Derived.Test.YtoehcholbcchcaaDoorUKit
import Derived.Test.YtoehcholbcchcaaDoorUShelf
import Derived.Test.YtoehcholbcchcaaDoorUStrK
import Derived.Test.YtoehcholbcchcaaDoorUTextF
import Derived.Test.YtoehcholbcchcaaDoorUkB
import Derived.Lib.OthersKept
import Derived.Laws.RangeAny
import Derived.WalkKit
import Derived.Deep.QuietTactic
import Derived.BigQuiet
import Derived.WalkSmall
import Derived.Lib.ReplaceLaws
import Derived.Lib.IndexAny
import Derived.Deep.RegionWith
import Derived.Deep.RegionHeld3
import Derived.Test.YtoehcholbcchcaaDoorChecked
import Derived.Lib.Small
import Derived.WalkMore
import Derived.Lib.DecodeN
import Derived.Laws.Runes
import Derived.Maps.Own
import Derived.Maps.Views
import Derived.OwnWalk
import Derived.Deep.DeepCutAuto
section
namespace Go.Proofs.YtoehcholbcchcaaDoor
open Go.RowKit
structure Keep (p : Nat) (w w' : World) : Prop where
  os : w'.os = w.os
  tape : w'.tape = w.tape
  output : w'.output = w.output
  size : w.heap.size ≤ w'.heap.size
  block : ∀ k, k < w.heap.size → k ≠ p → w'.heap[k]? = w.heap[k]?
theorem Keep.refl (p : Nat) (w : World) : Keep p w w := ⟨rfl, rfl, rfl, Nat.le_refl _, fun _ _ _ => rfl⟩
theorem Keep.trans {p : Nat} {a b c : World} (h : Keep p a b) (k : Keep p b c) : Keep p a c :=
  ⟨k.os.trans h.os, k.tape.trans h.tape, k.output.trans h.output, Nat.le_trans h.size k.size, fun i hi hp => (k.block i (Nat.lt_of_lt_of_le hi h.size) hp).trans (h.block i hi hp)⟩
theorem Keep.of {p : Nat} {w w' : World} (h : Below w.heap.size w w') : Keep p w w' := ⟨h.os, h.tape, h.output, h.size, fun k hk _ => h.block k hk⟩
theorem Keep.more {p : Nat} {a b c : World} (h : Keep p a b) (k : Below b.heap.size b c) : Keep p a c := h.trans (Keep.of k)
theorem Keep.set {p : Nat} {a w : World} (h : Keep p a w) (o : Nat) (u : Value) : Keep p a (w.setCell ⟨p, o, none⟩ u) :=
  h.trans ⟨rfl, rfl, rfl, by simp [World.setCell], fun k _ hp => Below.heap_setCell _ _ _ _ hp⟩
theorem Keep.alloc {p : Nat} {a w : World} (h : Keep p a w) (o : Obj) : Keep p a (w.alloc o) := h.more ((Below.refl _ _).alloc (Nat.le_refl _) o)
theorem Keep.drew {p : Nat} {a w : World} (h : Keep p a w) : Keep p a w.drew := h.trans ⟨rfl, rfl, rfl, Nat.le_refl _, fun _ _ _ => rfl⟩
theorem Keep.drewN {p : Nat} {a w : World} (h : Keep p a w) (n : Nat) : Keep p a (w.drewN n) := h.trans ⟨rfl, rfl, rfl, Nat.le_refl _, fun _ _ _ => rfl⟩
theorem Keep.own {p : Nat} {a w : World} (h : Keep p a w) {q : Addr} (hq : a.heap.size ≤ q.block) (u : Value) : Keep p a (w.setCell q u) :=
  ⟨h.os, h.tape, h.output, by have := h.size; simp [World.setCell]; exact this, fun k hk hp => (Below.heap_setCell _ _ _ _ (by omega)).trans (h.block k hk hp)⟩
theorem Keep.grown {p : Nat} {a w w' : World} {row : Option Nat} (h : Keep p a w) (hg : w.grownBy w' row) (hr : ∀ k, row = some k → a.heap.size ≤ k) : Keep p a w' :=
  ⟨hg.os.trans h.os, hg.tape.trans h.tape, hg.output.trans h.output, Nat.le_trans h.size hg.size, fun k hk hp => (hg.block k (Nat.lt_of_lt_of_le hk h.size) (fun e => by have := hr k e.symm; omega)).trans (h.block k hk hp)⟩
theorem Keep.below {B p : Nat} {a w w' : World} (h : Keep p w w') (hb : Below B a w) (hp : B ≤ p) (hB : B ≤ w.heap.size) : Below B a w' :=
  hb.trans ⟨h.os, h.tape, h.output, h.size, fun k hk => h.block k (by omega) (by omega)⟩
theorem Keep.cell {p : Nat} {w w' : World} (h : Keep p w w') {a : Addr} (ha : a.block < w.heap.size) (hp : a.block ≠ p) : w'.cell? a = w.cell? a := World.cell?_of_block (w := w) (h.block _ ha hp)
theorem Keep.row {p B : Nat} {e : TypeId} {k n : Nat} {v : Value} {xs : List Value} {w w' : World} (h : Keep p w w') (hr : w.ownsRow B e k v n xs) (hp : p < B) : w'.ownsRow B e k v n xs := by
  obtain ⟨h1, h2⟩ := hr
  refine ⟨h1, ?_⟩
  rcases h2 with h2 | ⟨g, cap, cur, hv, hg, hh, r⟩
  · exact .inl h2
  · exact .inr ⟨g, cap, cur, hv, hg, (h.block g (Array.getElem?_eq_some_iff.1 hh).1 (by omega)).trans hh, r⟩
def Blk (w : World) (b : Nat) (cs : Array Value) (T : TypeId) : Prop := w.heap[b]? = some (.cells cs T (0, 0))
theorem Blk.lt {w : World} {b : Nat} {cs : Array Value} {T : TypeId} (h : Blk w b cs T) : b < w.heap.size := (Array.getElem?_eq_some_iff.1 h).1
theorem Blk.cell {w : World} {b : Nat} {cs : Array Value} {T : TypeId} (h : Blk w b cs T) (o : Nat) : w.cell? ⟨b, o, none⟩ = cs[o]? := cell_of_row w b o _ _ _ h
theorem Blk.fr {w : World} {b : Nat} {cs : Array Value} {T : TypeId} (h : Blk w b cs T) (o : Nat) : w.frozen? ⟨b, o, none⟩ = false := frozen_of_row w b o _ _ h
theorem Blk.keep {w w' : World} {b p : Nat} {cs : Array Value} {T : TypeId} (h : Blk w b cs T) (k : Keep p w w') (hb : b ≠ p) : Blk w' b cs T := (k.block b h.lt hb).trans h
theorem Blk.more {w w' : World} {b : Nat} {cs : Array Value} {T : TypeId} (h : Blk w b cs T) (k : Below w.heap.size w w') : Blk w' b cs T := (k.block b h.lt).trans h
theorem Blk.own {w : World} {b : Nat} {cs : Array Value} {T : TypeId} (h : Blk w b cs T) {q : Addr} (hq : q.block ≠ b) (u : Value) : Blk (w.setCell q u) b cs T := (Below.heap_setCell w q u b (fun e => hq e.symm)).trans h
theorem Blk.new (w : World) (cs : Array Value) (T : TypeId) : Blk (w.alloc (.cells cs T)) w.heap.size cs T := heap_alloc_new w _
end Go.Proofs.YtoehcholbcchcaaDoor
end
section
namespace Go.Proofs.YtoehcholbcchcaaDoor
section
open Go.RowKit
end
section
open Go.RowKit
theorem Keep.low {p : Nat} {w w1 w2 : World} (h : Keep p w w1) (b : Below w.heap.size w1 w2) : Keep p w w2 :=
  ⟨b.os.trans h.os, b.tape.trans h.tape, b.output.trans h.output, Nat.le_trans h.size b.size, fun k hk hp => (b.block k hk).trans (h.block k hk hp)⟩
theorem bld_at_same {T e : TypeId} {B b : Nat} {q : Value} {bs : List Value} {w w' : World} (h : Lib.BuilderAtF T e B b q bs w) (hk : ∀ x, B ≤ x → x < w.heap.size → w'.heap[x]? = w.heap[x]?) : Lib.BuilderAtF T e B b q bs w' := by
  obtain ⟨hB, v, hh, hown, hne⟩ := h
  refine ⟨hB, v, (hk b hB (Array.getElem?_eq_some_iff.1 hh).1).trans hh, ⟨hown.1, ?_⟩, hne⟩
  rcases hown.2 with hn | ⟨g, cap, cur, fz, hv, hbg, hg, rest⟩
  · exact .inl hn
  · exact .inr ⟨g, cap, cur, fz, hv, hbg, (hk g hbg (Array.getElem?_eq_some_iff.1 hg).1).trans hg, rest⟩
theorem Bld.same {B b : Nat} {l : List UInt8} {w w' : World} (h : Bld B b l w) (hk : ∀ x, B ≤ x → x < w.heap.size → w'.heap[x]? = w.heap[x]?) : Bld B b l w' := h.elim (fun x => .inl (bld_at_same x hk)) (fun x => .inr (bld_at_same x hk))
theorem Bld.set {B b p : Nat} {l : List UInt8} {w : World} (h : Bld B b l w) (hp : p < B) (o : Nat) (u : Value) : Bld B b l (w.setCell ⟨p, o, none⟩ u) :=
  h.same fun x hx _ => Below.heap_setCell w ⟨p, o, none⟩ u x (fun e => by have : x = p := e; omega)
end
end Go.Proofs.YtoehcholbcchcaaDoor
end
section
namespace Go.Proofs.YtoehcholbcchcaaDoor
section
open Go.RowKit
end
section
open Go.RowKit
end
section
open Go.RowKit
theorem attr4_name (s : ByteArray) (i : Nat) (N : List UInt8) (e : Nat) (c : List UInt8 × Int × Int) : (attr4 s i N e c).1.1 = N := by
  unfold attr4
  split
  · rfl
  · split
    · rfl
    · split <;> rfl
end
section
open Go.RowKit Go.Maps
def nmD : List AttrD → DataW Unit
  | [] => .map []
  | x :: r => (nmD r).put (.string x.nm.data.toList) (.lit (.bool true))
def NmSet (w : World) (b : Nat) (l : List AttrD) : Prop := w.ownsMap Tryd.prog 9 (plainElem Tryd.prog 4) b l.length (nmD l)
theorem NmSet.same {w w' : World} {b : Nat} {l : List AttrD} (h : NmSet w b l) (hb : w'.heap[b]? = w.heap[b]?) : NmSet w' b l := by
  obtain ⟨es, clock, h1, h2⟩ := h
  exact ⟨es, clock, hb.trans h1, h2⟩
theorem NmSet.lt {w : World} {b : Nat} {l : List AttrD} (h : NmSet w b l) : b < w.heap.size := by
  obtain ⟨es, clock, h1, _⟩ := h
  exact (Array.getElem?_eq_some_iff.1 h1).1
theorem attrP_nm (s : ByteArray) (i a : Nat) : (attrP s i a).1.1.length ≤ s.data.toList.length := by
  rw [attrP_def]
  split
  · simp
  · have h1 : (attr1 s i ((s.data.toList.drop a).take (nmP s a - a)) (spP s.data.toList (nmP s a))).1.1 = (s.data.toList.drop a).take (nmP s a - a) := by
      unfold attr1
      split
      · unfold attr2 attr3
        split
        · exact attr4_name ..
        · split
          · exact attr4_name ..
          · rfl
      · rfl
    rw [h1, List.length_take, List.length_drop]
    omega
end
end Go.Proofs.YtoehcholbcchcaaDoor
end
section
namespace Go.Proofs.YtoehcholbcchcaaDoor
open Go.RowKit
theorem startGo_len (s : ByteArray) (i : Nat) (N : List UInt8) : ∀ f a acc, s.size - a < f → a ≤ s.size → acc.length ≤ a → (startGo s i N f a acc).al.length ≤ s.size
  | 0, a, acc, hf, _, _ => absurd hf (by omega)
  | f + 1, a, acc, hf, ha, hl => by
    have hsl : s.data.toList.length = s.size := by simp
    rw [startGo]
    have hk := spP_le s.data.toList a (by omega)
    rw [hsl] at hk
    generalize spP s.data.toList a = m at *
    split
    · simp only; omega
    · split
      · simp only; omega
      · split
        · simp only; omega
        · split
          · simp only; omega
          · split
            · simp only; omega
            · rename_i h5
              obtain ⟨z, hz, hz1, hz2⟩ := attrP_ok s i m (by omega) (by simpa using h5)
              split
              · simp only; omega
              · rw [hz, Int.toNat_natCast]
                exact startGo_len s i N f z _ (by omega) hz2 (by rw [List.length_append, List.length_singleton]; omega)
theorem consP_len (s : ByteArray) (i : Nat) : (consP s i).1.al.length ≤ s.size := by
  have hsl : s.data.toList.length = s.size := by simp
  unfold consP
  split
  · exact Nat.zero_le _
  · split
    · exact Nat.zero_le _
    · split
      · unfold cdataP
        split <;> exact Nat.zero_le _
      · split
        · exact Nat.zero_le _
        · split
          · exact Nat.zero_le _
          · split
            · exact Nat.zero_le _
            · split
              · rename_i h7
                have hl := hasP_len h7 (by decide)
                rw [hsl] at hl
                simp only
                unfold startP
                have hb := nmP_le s (i + 1) hl
                split
                · exact Nat.zero_le _
                · exact startGo_len s i _ _ _ _ (by omega) hb.2 (Nat.zero_le _)
              · exact Nat.zero_le _
def Small (n : Nat) (l : List TokD) : Prop := l.length ≤ n ∧ ∀ t ∈ l, t.al.length ≤ n
theorem tokGo_small (s : ByteArray) : ∀ f a acc, s.size - a < f → a ≤ s.size → acc.length ≤ a → (∀ t ∈ acc, t.al.length ≤ s.size) → Small s.size (tokGo s f a acc).1
  | 0, a, acc, hf, _, _, _ => absurd hf (by omega)
  | f + 1, a, acc, hf, ha, hl, ht => by
    rw [tokGo]
    split
    · rename_i h1
      split
      · exact ⟨Nat.zero_le _, fun t h => by cases h⟩
      · rename_i h2
        have h0 : (consP s a).2.2 = 0 := by simpa using h2
        obtain ⟨z, hz, hz1, hz2⟩ := consP_ok s a h1 h0
        rw [hz, Int.toNat_natCast]
        refine tokGo_small s f z _ (by omega) hz2 ?_ ?_
        · split
          · rw [List.length_append, List.length_singleton]; omega
          · omega
        · split
          · intro t h
            rcases List.mem_append.1 h with h | h
            · exact ht t h
            · rw [List.mem_singleton.1 h]; exact consP_len s a
          · exact ht
    · exact ⟨by simp only; omega, ht⟩
theorem toksP_small (s : ByteArray) : Small s.size (toksP s).1 := by
  have hsl : s.data.toList.length = s.size := by simp
  unfold toksP
  split
  · exact ⟨Nat.zero_le _, fun t h => by cases h⟩
  · refine tokGo_small s _ _ _ (by split <;> omega) ?_ (Nat.zero_le _) (fun t h => by cases h)
    split
    · rename_i h
      have := hasP_len (i := 0) h (by decide)
      rw [hsl] at this
      simpa using this
    · omega
end Go.Proofs.YtoehcholbcchcaaDoor
end
