/- Packed from the texts Keep TokB TokD TokH TagA TagE TokV TokR. -/
import Derived.Test.YtppmoeidgefkpaaGreatDoorWBldr
import Derived.Test.YtppmoeidgefkpaaGreatDoorWEscH
import Derived.Test.YtppmoeidgefkpaaGreatDoorWEscI
import Derived.Test.YtppmoeidgefkpaaGreatDoorWEscV
import Derived.Test.YtppmoeidgefkpaaGreatDoorWIdx
import Derived.Test.YtppmoeidgefkpaaGreatDoorWStrK
import Derived.Test.YtppmoeidgefkpaaGreatDoorWTextF
import Derived.Test.YtppmoeidgefkpaaGreatDoorWkB
import Derived.Lib.ReplaceLaws
import Derived.Lib.IndexAny
import Derived.BigQuiet
import Derived.Deep.RegionWith
import Derived.Deep.RegionHeld3
import Derived.WalkKit
import Derived.WalkSmall
import Derived.Maps.Own
import Derived.Maps.Views
import Derived.OwnWalk
import Derived.Deep.DeepCutAuto
set_option maxRecDepth 100000
namespace Go.Proofs.YtppmoeidgefkpaaGreatDoor
section
open Go.RowKit
structure Keep (p : Nat) (w w' : World) : Prop where
 os : w'.os = w.os
 tape : w'.tape = w.tape
 output : w'.output = w.output
 size : w.heap.size ≤ w'.heap.size
 block : ∀ k, k < w.heap.size → k ≠ p → w'.heap[k]? = w.heap[k]?
theorem Keep.refl (p : Nat) (w : World) : Keep p w w := ⟨rfl, rfl, rfl, Nat.le_refl _, fun _ _ _ => rfl⟩
theorem Keep.trans {p : Nat} {a b c : World} (h : Keep p a b) (k : Keep p b c) : Keep p a c :=
 ⟨k.os.trans h.os, k.tape.trans h.tape, k.output.trans h.output, Nat.le_trans h.size k.size, fun i hi hp => (k.block i (Nat.lt_of_lt_of_le hi h.size) hp).trans (h.block i hi hp)⟩
theorem Keep.of {p : Nat} {w w' : World} (h : Below w.heap.size w w') : Keep p w w' := ⟨h.os, h.tape, h.output, h.size, fun k hk _ => h.block k hk⟩
theorem Keep.more {p : Nat} {a b c : World} (h : Keep p a b) (k : Below b.heap.size b c) : Keep p a c := h.trans (Keep.of k)
theorem Keep.set {p : Nat} {a w : World} (h : Keep p a w) (o : Nat) (u : Value) : Keep p a (w.setCell ⟨p, o, none⟩ u) :=
 h.trans ⟨rfl, rfl, rfl, by simp [World.setCell], fun k _ hp => Below.heap_setCell _ _ _ _ hp⟩
theorem Keep.alloc {p : Nat} {a w : World} (h : Keep p a w) (o : Obj) : Keep p a (w.alloc o) := h.more ((Below.refl _ _).alloc (Nat.le_refl _) o)
theorem Keep.drew {p : Nat} {a w : World} (h : Keep p a w) : Keep p a w.drew := h.trans ⟨rfl, rfl, rfl, Nat.le_refl _, fun _ _ _ => rfl⟩
theorem Keep.drewN {p : Nat} {a w : World} (h : Keep p a w) (n : Nat) : Keep p a (w.drewN n) := h.trans ⟨rfl, rfl, rfl, Nat.le_refl _, fun _ _ _ => rfl⟩
theorem Keep.own {p : Nat} {a w : World} (h : Keep p a w) {q : Addr} (hq : a.heap.size ≤ q.block) (u : Value) : Keep p a (w.setCell q u) :=
 ⟨h.os, h.tape, h.output, by have := h.size; simp [World.setCell]; exact this, fun k hk hp => (Below.heap_setCell _ _ _ _ (by omega)).trans (h.block k hk hp)⟩
theorem Keep.grown {p : Nat} {a w w' : World} {row : Option Nat} (h : Keep p a w) (hg : w.grownBy w' row) (hr : ∀ k, row = some k → a.heap.size ≤ k) : Keep p a w' :=
 ⟨hg.os.trans h.os, hg.tape.trans h.tape, hg.output.trans h.output, Nat.le_trans h.size hg.size, fun k hk hp => (hg.block k (Nat.lt_of_lt_of_le hk h.size) (fun e => by have := hr k e.symm; omega)).trans (h.block k hk hp)⟩
theorem Keep.below {B p : Nat} {a w w' : World} (h : Keep p w w') (hb : Below B a w) (hp : B ≤ p) (hB : B ≤ w.heap.size) : Below B a w' :=
 hb.trans ⟨h.os, h.tape, h.output, h.size, fun k hk => h.block k (by omega) (by omega)⟩
theorem Keep.cell {p : Nat} {w w' : World} (h : Keep p w w') {a : Addr} (ha : a.block < w.heap.size) (hp : a.block ≠ p) : w'.cell? a = w.cell? a := World.cell?_of_block (w := w) (h.block _ ha hp)
theorem Keep.row {p B : Nat} {e : TypeId} {k n : Nat} {v : Value} {xs : List Value} {w w' : World} (h : Keep p w w') (hr : w.ownsRow B e k v n xs) (hp : p < B) : w'.ownsRow B e k v n xs := by
 obtain ⟨h1, h2⟩ := hr
 refine ⟨h1, ?_⟩
 rcases h2 with h2 | ⟨g, cap, cur, hv, hg, hh, r⟩
 ·exact .inl h2
 ·exact .inr ⟨g, cap, cur, hv, hg, (h.block g (Array.getElem?_eq_some_iff.1 hh).1 (by omega)).trans hh, r⟩
def Blk (w : World) (b : Nat) (cs : Array Value) (T : TypeId) : Prop := w.heap[b]? = some (.cells cs T (0, 0))
theorem Blk.lt {w : World} {b : Nat} {cs : Array Value} {T : TypeId} (h : Blk w b cs T) : b < w.heap.size := (Array.getElem?_eq_some_iff.1 h).1
theorem Blk.cell {w : World} {b : Nat} {cs : Array Value} {T : TypeId} (h : Blk w b cs T) (o : Nat) : w.cell? ⟨b, o, none⟩ = cs[o]? := cell_of_row w b o _ _ _ h
theorem Blk.fr {w : World} {b : Nat} {cs : Array Value} {T : TypeId} (h : Blk w b cs T) (o : Nat) : w.frozen? ⟨b, o, none⟩ = false := frozen_of_row w b o _ _ h
theorem Blk.keep {w w' : World} {b p : Nat} {cs : Array Value} {T : TypeId} (h : Blk w b cs T) (k : Keep p w w') (hb : b ≠ p) : Blk w' b cs T := (k.block b h.lt hb).trans h
theorem Blk.more {w w' : World} {b : Nat} {cs : Array Value} {T : TypeId} (h : Blk w b cs T) (k : Below w.heap.size w w') : Blk w' b cs T := (k.block b h.lt).trans h
theorem Blk.own {w : World} {b : Nat} {cs : Array Value} {T : TypeId} (h : Blk w b cs T) {q : Addr} (hq : q.block ≠ b) (u : Value) : Blk (w.setCell q u) b cs T := (Below.heap_setCell w q u b (fun e => hq e.symm)).trans h
theorem Blk.new (w : World) (cs : Array Value) (T : TypeId) : Blk (w.alloc (.cells cs T)) w.heap.size cs T := heap_alloc_new w _
end
section
section
open Go.RowKit
def rAll (old new s : List UInt8) : List UInt8 := Lib.replaceK old new (Lib.count s old) s
theorem rAll_hit (old new s : List UInt8) (ho : old ≠ []) (h : old.isPrefixOf s = true) : rAll old new s = new ++ rAll old new (s.drop old.length) := by
 have hi : Lib.index s old = ((0 : Nat) : Int) := by
  cases s with
  | nil =>
   cases old with
   | nil => exact absurd rfl ho
   | cons a b => simp [List.isPrefixOf] at h
  | cons c r => rw [Lib.index, if_pos h]; rfl
 unfold rAll
 rw [Lib.count_hit ho hi, Nat.add_comm, Lib.replaceK_hit old new _ s 0 hi]
 simp
theorem rAll_miss (old new : List UInt8) (c : UInt8) (r : List UInt8) (ho : old ≠ []) (h : old.isPrefixOf (c :: r) = false) : rAll old new (c :: r) = c :: rAll old new r := by
 have hge := Lib.index_ge r old
 by_cases hm : Lib.index r old = -1
 ·have hm2 : Lib.index (c :: r) old = -1 := by rw [Lib.index, h, hm]; rfl
  unfold rAll
  rw [Lib.count_miss hm, Lib.count_miss hm2]; rfl
 ·obtain ⟨i, hi⟩ := Int.eq_ofNat_of_zero_le (show 0 ≤ Lib.index r old by omega)
  have hb : (Lib.index r old == -1) = false := by simpa using hm
  have hi2 : Lib.index (c :: r) old = ((i + 1 : Nat) : Int) := by
   rw [Lib.index, h, hb, if_neg (by decide), if_neg (by decide), hi]; rfl
  have hd : (c :: r).drop (i + 1 + old.length) = r.drop (i + old.length) := by
   rw [show i + 1 + old.length = (i + old.length) + 1 by omega, List.drop_succ_cons]
  unfold rAll
  rw [Lib.count_hit ho hi, Lib.count_hit ho hi2, Nat.add_comm, Lib.replaceK_hit old new _ _ _ hi2, hd, Nat.add_comm 1, Lib.replaceK_hit old new _ _ _ hi, List.take_succ_cons, List.cons_append, List.cons_append]
theorem rAll_nil (old new : List UInt8) (ho : old ≠ []) : rAll old new [] = [] := by
 have hm : Lib.index [] old = -1 := by
  cases old with
  | nil => exact absurd rfl ho
  | cons a b => rfl
 unfold rAll
 rw [Lib.count_miss hm]; rfl
theorem replaceAll_eq (s old new : List UInt8) (h : (old == new) = false) : Lib.replaceAll s old new = rAll old new s := by
 unfold Lib.replaceAll Lib.replace Lib.replaceNum rAll
 rw [h, if_neg (by decide), if_pos (Or.inl (by decide))]
def mapB (c d : UInt8) (l : List UInt8) : List UInt8 := l.map fun x => if x = c then d else x
theorem rAll_one (c d : UInt8) : ∀ l : List UInt8, rAll [c] [d] l = mapB c d l
 | [] => rAll_nil _ _ (by simp)
 | x :: r => by
  by_cases h : x = c
  ·rw [rAll_hit [c] [d] (x :: r) (by simp) (by rw [h]; simp [List.isPrefixOf])]
   simp only [List.length_cons, List.length_nil, Nat.zero_add, List.drop_succ_cons, List.drop_zero]
   rw [rAll_one c d r]
   simp [mapB, h]
  ·have h2 : (c == x) = false := by simpa using fun e : c = x => h e.symm
   rw [rAll_miss _ _ _ _ (by simp) (by simp [List.isPrefixOf, h2]), rAll_one c d r]
   simp [mapB, h]
def crlf : List UInt8 → List UInt8
 | [] => []
 | c :: r => if c = 13 ∧ r.head? = some 10 then crlf r else c :: crlf r
theorem crlf_len : ∀ l : List UInt8, (crlf l).length ≤ l.length
 | [] => Nat.le_refl _
 | c :: r => by
  have := crlf_len r
  rw [crlf]
  split <;> simp only [List.length_cons] <;> omega
theorem rAll_crlf : ∀ (n : Nat) (l : List UInt8), l.length ≤ n → rAll [13, 10] [10] l = crlf l
 | _, [], _ => rAll_nil _ _ (by simp)
 | 0, _ :: _, h => absurd h (by simp)
 | n + 1, c :: r, h => by
  have hr : r.length ≤ n := by simpa using h
  by_cases hc : c = 13 ∧ r.head? = some 10
  ·obtain ⟨rfl, hh⟩ := hc
   cases r with
   | nil => simp at hh
   | cons d t =>
    simp only [List.head?_cons, Option.some.injEq] at hh
    subst hh
    rw [rAll_hit [13, 10] [10] _ (by simp) (by simp [List.isPrefixOf])]
    simp only [List.length_cons, List.length_nil, Nat.zero_add, List.drop_succ_cons, List.drop_zero]
    rw [rAll_crlf n t (by simp at hr; omega), crlf, if_pos ⟨rfl, rfl⟩, crlf, if_neg (by simp)]
    rfl
  ·have hp : ([13, 10] : List UInt8).isPrefixOf (c :: r) = false := by
    cases r with
    | nil => simp [List.isPrefixOf]
    | cons d t =>
     simp only [List.head?_cons, Option.some.injEq] at hc
     rw [Bool.eq_false_iff]
     intro e
     simp [List.isPrefixOf] at e
     exact hc ⟨e.1.symm, e.2.symm⟩
   rw [rAll_miss _ _ _ _ (by simp) hp, rAll_crlf n r hr, crlf, if_neg hc]
theorem lines_eq : ∀ l : List UInt8, mapB 13 10 (crlf l) = linesP l
 | [] => rfl
 | c :: r => by
  rw [crlf, linesP]
  by_cases hc : c = 13 ∧ r.head? = some 10
  ·rw [if_pos hc, if_pos hc, lines_eq r]
  ·rw [if_neg hc, if_neg hc, ← lines_eq r]; rfl
theorem linesP_13 : ∀ l : List UInt8, ∀ x ∈ linesP l, x ≠ 13
 | [], x, h => by simp [linesP] at h
 | c :: r, x, h => by
  rw [linesP] at h
  split at h
  ·exact linesP_13 r x h
  ·rcases List.mem_cons.1 h with h | h
   ·rw [h]; split
    ·decide
    ·assumption
   ·exact linesP_13 r x h
theorem sp_bytes : ∀ n : Fin 256, UInt8.ofNat n.val ≠ 13 → spOne (UInt8.ofNat n.val) = (if (if UInt8.ofNat n.val = 10 then (32 : UInt8) else UInt8.ofNat n.val) = 9 then 32 else (if UInt8.ofNat n.val = 10 then (32 : UInt8) else UInt8.ofNat n.val)) := by decide
theorem sp_byte (c : UInt8) (h : c ≠ 13) : spOne c = (if (if c = 10 then (32 : UInt8) else c) = 9 then 32 else (if c = 10 then (32 : UInt8) else c)) := by
 have := sp_bytes ⟨c.toNat, c.toNat_lt⟩
 simp only [UInt8.ofNat_toNat] at this
 exact this h
theorem spaces_eq (l : List UInt8) : mapB 9 32 (mapB 10 32 (linesP l)) = spMap true (linesP l) := by
 unfold mapB spMap
 rw [if_pos rfl, List.map_map]
 apply List.map_congr_left
 intro x hx
 exact (sp_byte x (linesP_13 l x hx)).symm
theorem ia_cases (cs : List UInt8) : ∀ l : List UInt8, (Lib.indexAny l cs = -1 ∧ ∀ x ∈ l, cs.contains x = false) ∨ ∃ n : Nat, Lib.indexAny l cs = (n : Int) ∧ ∃ h : n < l.length, cs.contains l[n] = true ∧ ∀ x ∈ l.take n, cs.contains x = false
 | [] => .inl ⟨rfl, by simp⟩
 | b :: l => by
  rw [Lib.indexAny]
  cases hb : cs.contains b with
  | true => exact .inr ⟨0, by simp, by simp, by simpa using hb, by simp⟩
  | false =>
   rcases ia_cases cs l with ⟨h1, h2⟩ | ⟨n, h1, h2, h3, h4⟩
   ·left
    rw [h1]
    refine ⟨rfl, fun x hx => ?_⟩
    rcases List.mem_cons.1 hx with rfl | hx
    ·exact hb
    ·exact h2 x hx
   ·right
    have hm : (Lib.indexAny l cs == -1) = false := by rw [h1]; rw [beq_eq_false_iff_ne]; omega
    refine ⟨n + 1, ?_, by simpa using h2, by simpa using h3, fun x hx => ?_⟩
    ·rw [if_neg (by decide), hm, if_neg (by decide), h1]; rfl
    ·rw [List.take_succ_cons] at hx
     rcases List.mem_cons.1 hx with rfl | hx
     ·exact hb
     ·exact h4 x hx
def stopAt (S l : List UInt8) (i : Nat) : Nat := i + ((l.drop i).takeWhile fun c => !S.contains c).length
theorem stopAt_end (S l : List UInt8) (i : Nat) (h : l.length ≤ i) : stopAt S l i = i := by unfold stopAt; rw [List.drop_eq_nil_of_le h]; rfl
theorem stopAt_hit (S l : List UInt8) (i : Nat) (h : i < l.length) (hs : S.contains l[i] = true) : stopAt S l i = i := by
 unfold stopAt; rw [List.drop_eq_getElem_cons h, List.takeWhile_cons, hs]; rfl
theorem stopAt_miss (S l : List UInt8) (i : Nat) (h : i < l.length) (hs : S.contains l[i] = false) : stopAt S l i = stopAt S l (i + 1) := by
 unfold stopAt; rw [List.drop_eq_getElem_cons h, List.takeWhile_cons, hs]
 simp only [Bool.not_false, if_true, List.length_cons]; omega
theorem stopAt_le (S l : List UInt8) (i : Nat) (h : i ≤ l.length) : i ≤ stopAt S l i ∧ stopAt S l i ≤ l.length := by
 unfold stopAt
 have := (List.takeWhile_prefix (fun c => !S.contains c) (l := l.drop i)).length_le
 rw [List.length_drop] at this
 omega
theorem stopAt_run (S l : List UInt8) : ∀ (n i : Nat), i + n ≤ l.length → (∀ x ∈ (l.drop i).take n, S.contains x = false) → stopAt S l i = stopAt S l (i + n)
 | 0, _, _, _ => rfl
 | n + 1, i, h, hx => by
  have hi : i < l.length := by omega
  rw [List.drop_eq_getElem_cons hi, List.take_succ_cons] at hx
  rw [stopAt_miss S l i hi (hx _ (List.mem_cons_self ..)), stopAt_run S l n (i + 1) (by omega) (fun x h => hx x (List.mem_cons_of_mem _ h)), show i + 1 + n = i + (n + 1) by omega]
theorem stopAt_spec (S l : List UInt8) : ∀ (d i : Nat), l.length - i ≤ d → (∀ q, i ≤ q → q < stopAt S l i → ∀ h : q < l.length, S.contains l[q] = false) ∧ (∀ h : stopAt S l i < l.length, S.contains l[stopAt S l i] = true)
 | 0, i, h => by
  rw [stopAt_end S l i (by omega)]
  exact ⟨fun q h1 h2 => by omega, fun h => by omega⟩
 | d + 1, i, h => by
  by_cases hi : i < l.length
  ·cases hs : S.contains l[i] with
   | true =>
    rw [stopAt_hit S l i hi hs]
    exact ⟨fun q h1 h2 => by omega, fun _ => hs⟩
   | false =>
    obtain ⟨a, b⟩ := stopAt_spec S l d (i + 1) (by omega)
    rw [stopAt_miss S l i hi hs]
    refine ⟨fun q h1 h2 h3 => ?_, b⟩
    rcases Nat.eq_or_lt_of_le h1 with rfl | h1
    ·exact hs
    ·exact a q h1 h2 h3
  ·rw [stopAt_end S l i (by omega)]
   exact ⟨fun q h1 h2 => by omega, fun h => by omega⟩
theorem stopAt_mid (S l : List UInt8) (i k : Nat) (hik : i ≤ k) (hk : k ≤ stopAt S l i) (hi : i ≤ l.length) : stopAt S l k = stopAt S l i := by
 obtain ⟨a, _⟩ := stopAt_spec S l _ i (Nat.le_refl _)
 have hl := stopAt_le S l i hi
 have := stopAt_run S l (k - i) i (by omega) (fun x hx => by
  obtain ⟨q, hq, rfl⟩ := List.mem_iff_getElem.1 hx
  rw [List.length_take, List.length_drop] at hq
  rw [List.getElem_take, List.getElem_drop]
  exact a _ (by omega) (by omega) (by omega))
 rw [show i + (k - i) = k by omega] at this
 exact this.symm
theorem stop_lt (s : ByteArray) : ∀ (d i : Nat), s.size - i ≤ d → i ≤ s.size → dataEnd s i = stopAt [60] s.data.toList i
 | d, i, h, hi => by
  have hsl : s.data.toList.length = s.size := by simp
  by_cases hlt : i < s.size
  ·have hil : i < s.data.toList.length := by omega
   obtain ⟨x, hx⟩ : ∃ x, s.data.toList[i]'hil = x := ⟨_, rfl⟩
   have hgx : s.data.toList[i]? = some x := by rw [List.getElem?_eq_getElem hil, hx]
   by_cases h60 : x = 60
   ·subst h60
    rw [stopAt_hit _ _ _ hil (by rw [hx]; decide)]
    unfold dataEnd
    rw [nextP_hit _ _ _ hil (hasP_yes1 hgx), if_neg (by omega), Int.toNat_natCast]
   ·cases d with
    | zero => omega
    | succ d =>
     rw [stopAt_miss _ _ _ hil (by rw [hx]; simpa using h60), ← stop_lt s d (i + 1) (by omega) (by omega)]
     unfold dataEnd
     rw [nextP_miss _ _ _ hil (hasP_no [] hgx h60)]
  ·rw [stopAt_end _ _ _ (by omega)]
   unfold dataEnd
   rw [nextP_end _ _ _ (by simp) (by simp; omega), if_pos (by decide)]
   omega
theorem quo_stop (l : List UInt8) (x : UInt8) (e : Nat) : quoAt l x e = stopAt [60, x] l e := by
 unfold quoAt stopAt
 have hf : (fun c : UInt8 => c != x && c != 60) = (fun c => !([60, x] : List UInt8).contains c) := by
  funext c
  simp only [List.contains_cons, List.contains_nil, Bool.or_false, bne, Bool.not_or]
  rw [Bool.and_comm]
 rw [hf]
def Stops (S : List UInt8) : Prop := ∀ c ∈ S, c = 60 ∨ c = 34 ∨ c = 39
theorem numR_bad (base : Int) (hb : base ≤ 16) (c : UInt8) (hc : digI (c.toNat : Int) = 16) : ∀ (l : List UInt8) (n : Int), c ∈ l → numR base l n = -1
 | [], _, h => by simp at h
 | d :: r, n, h => by
  rw [numR]
  rcases List.mem_cons.1 h with rfl | h
  ·rw [if_pos (by omega)]
  ·split
   ·rfl
   ·exact numR_bad base hb c hc r _ h
theorem numB_bad (base : Int) (hb : base ≤ 16) (c : UInt8) (hc : digI (c.toNat : Int) = 16) (l : List UInt8) (h : c ∈ l) : numB base l = -1 := by
 unfold numB
 split
 ·rfl
 ·exact numR_bad base hb c hc l 0 h
theorem named_bad (c : UInt8) (hc : c = 60 ∨ c = 34 ∨ c = 39) (l : List UInt8) (h : c ∈ l) : namedP l = -1 := by
 unfold namedP
 have hn : ∀ m : List UInt8, (60 : UInt8) ∉ m → (34 : UInt8) ∉ m → (39 : UInt8) ∉ m → l ≠ m := by
  rintro m h1 h2 h3 rfl
  rcases hc with rfl | rfl | rfl
  ·exact h1 h
  ·exact h2 h
  ·exact h3 h
 rw [if_neg (hn _ (by decide) (by decide) (by decide)), if_neg (hn _ (by decide) (by decide) (by decide)), if_neg (hn _ (by decide) (by decide) (by decide)), if_neg (hn _ (by decide) (by decide) (by decide)), if_neg (hn _ (by decide) (by decide) (by decide))]
theorem refNum_bad (c : UInt8) (hc : c = 60 ∨ c = 34 ∨ c = 39) (l : List UInt8) (h : c ∈ l) : refNum l = -1 := by
 have hd : digI (c.toNat : Int) = 16 := by rcases hc with rfl | rfl | rfl <;> decide
 unfold refNum
 split
 ·rename_i h1
  cases l with
  | nil => simp at h
  | cons a t =>
   have ha : a = 35 := h1.2
   have ht : c ∈ t := by
    rcases List.mem_cons.1 h with h | h
    ·rw [ha] at h; rcases hc with rfl | rfl | rfl <;> exact absurd h (by decide)
    ·exact h
   split
   ·rename_i h2
    cases t with
    | nil => simp at ht
    | cons b u =>
     have hb : b = 120 := h2
     have hu : c ∈ u := by
      rcases List.mem_cons.1 ht with h | h
      ·rw [hb] at h; rcases hc with rfl | rfl | rfl <;> exact absurd h (by decide)
      ·exact h
     exact numB_bad 16 (by decide) c hd _ (by simpa using hu)
   ·exact numB_bad 10 (by decide) c hd _ (by simpa using ht)
 ·exact named_bad c hc l h
theorem tw_split (X : List UInt8) : ∀ n : Nat, (59 ∈ X.take n → tw (X.take n) = tw X ∧ (tw X).length < n) ∧ (59 ∉ X.take n → tw (X.take n) = X.take n ∧ ∀ c ∈ (X.drop n).head?, c ≠ 59 → 59 ∈ X → c ∈ tw X) := by
 induction X with
 | nil => intro n; simp [tw]
 | cons a X ih =>
  intro n
  cases n with
  | zero =>
   refine ⟨fun h => by simp at h, fun _ => ⟨rfl, fun c hc hne _ => ?_⟩⟩
   simp only [List.drop_zero, List.head?_cons, Option.mem_def, Option.some.injEq] at hc
   subst hc
   rw [tw_cons _ _ hne]
   exact List.mem_cons_self ..
  | succ n =>
   obtain ⟨h1, h2⟩ := ih n
   rw [List.take_succ_cons, List.drop_succ_cons]
   by_cases ha : a = 59
   ·subst ha
    refine ⟨fun _ => ⟨by rw [tw_semi, tw_semi], by rw [tw_semi]; simp⟩, fun h => absurd (List.mem_cons_self ..) h⟩
   ·rw [tw_cons _ _ ha, tw_cons _ _ ha]
    refine ⟨fun h => ?_, fun h => ?_⟩
    ·obtain ⟨p, q⟩ := h1 (by rcases List.mem_cons.1 h with e | e; exact absurd e.symm ha; exact e)
     exact ⟨by rw [p], by rw [List.length_cons]; omega⟩
    ·obtain ⟨p, q⟩ := h2 (fun e => h (List.mem_cons_of_mem _ e))
     refine ⟨by rw [p], fun c hc hne hm => List.mem_cons_of_mem _ (q c hc hne ?_)⟩
     rcases List.mem_cons.1 hm with e | e
     ·exact absurd e.symm ha
     ·exact e
theorem tw_none (X : List UInt8) (h : 59 ∉ X) : tw X = X := by
 have := (tw_split X X.length).2 (by rw [List.take_length]; exact h)
 rw [List.take_length] at this
 exact this.1
theorem refAt_take (S l : List UInt8) (hS : Stops S) (n j : Nat) (hn : n < j) (hj : j ≤ l.length) (hst : ∀ h : j < l.length, S.contains l[j] = true) : refAt (l.take j) n = refAt l n ∧ ((refAt l n).2.2 = 0 → (refAt l n).2.1 ≤ (j : Int)) := by
 have hX : (l.take j).drop (n + 1) = (l.drop (n + 1)).take (j - (n + 1)) := by rw [List.drop_take]
 have hlen : (l.take j).length = j := by rw [List.length_take]; omega
 have hXl : (l.drop (n + 1)).length = l.length - (n + 1) := List.length_drop
 obtain ⟨t1, t2⟩ := tw_split (l.drop (n + 1)) (j - (n + 1))
 unfold refAt
 rw [hX, hlen]
 by_cases h59 : 59 ∈ (l.drop (n + 1)).take (j - (n + 1))
 ·obtain ⟨p, q⟩ := t1 h59
  have e1 : n + 1 + (tw (l.drop (n + 1))).length < j := by omega
  have e2 : n + 1 + (tw (l.drop (n + 1))).length < l.length := by omega
  rw [p, if_pos e1, if_pos e2]
  refine ⟨rfl, fun h => ?_⟩
  split at h
  ·rename_i hc
   rw [if_pos hc]
   simp only; omega
  ·simp at h
 ·obtain ⟨p, q⟩ := t2 h59
  rw [p, if_neg (by rw [List.length_take, hXl]; omega)]
  have hbad : (if n + 1 + (tw (l.drop (n + 1))).length < l.length then (if isCharB (refNum (tw (l.drop (n + 1)))) then (refNum (tw (l.drop (n + 1))), ((n + 1 + (tw (l.drop (n + 1))).length + 1 : Nat) : Int), 0) else (0, 0, 12)) else (0, 0, 12) : Int × Int × Int) = (0, 0, 12) := by
   by_cases hjl : j < l.length
   ·by_cases hm : 59 ∈ l.drop (n + 1)
    ·have hc := hst hjl
     have hcs : l[j] ∈ S := by simpa using hc
     have hv := hS _ hcs
     have hh : ((l.drop (n + 1)).drop (j - (n + 1))).head? = some l[j] := by
      rw [List.drop_drop, show n + 1 + (j - (n + 1)) = j by omega, List.drop_eq_getElem_cons hjl]; rfl
     have hin := q l[j] hh (by rcases hv with e | e | e <;> rw [e] <;> decide) hm
     rw [refNum_bad _ hv _ hin]
     split <;> rfl
    ·rw [tw_none _ hm, if_neg (by rw [hXl]; omega)]
   ·have hjj : (l.drop (n + 1)).take (j - (n + 1)) = l.drop (n + 1) := List.take_of_length_le (by rw [hXl]; omega)
    rw [hjj] at h59
    rw [tw_none _ h59, if_neg (by rw [hXl]; omega)]
  rw [hbad]
  exact ⟨rfl, fun h => by simp at h⟩
theorem chunk_eq (l : List UInt8) : ∀ (d k j : Nat), d = j - k → k ≤ j → j ≤ l.length → (∀ q, k ≤ q → q < j → ∀ h : q < l.length, l[q] ≠ 38) → chunk l k j = (l.drop k).take (j - k)
 | 0, k, j, hd, hkj, hj, _ => by rw [show j = k by omega, chunk_end]; simp
 | d + 1, k, j, hd, hkj, hj, h => by
  have hk : k < l.length := by omega
  rw [chunk_at l k j (by omega) hk, if_neg (h k (by omega) (by omega) hk), chunk_eq l d (k + 1) j (by omega) (by omega) hj (fun q h1 h2 h3 => h q (by omega) h2 h3), List.drop_eq_getElem_cons hk, show j - k = (j - (k + 1)) + 1 by omega, List.take_succ_cons]
theorem chunk_mid (l : List UInt8) (n j : Nat) (hn : n < j) (hj : j ≤ l.length) (h38 : l.getD n 0 = 38) : ∀ (d k : Nat), d = n - k → k ≤ n → (∀ q, k ≤ q → q < n → ∀ h : q < l.length, l[q] ≠ 38) → chunk l k j = (l.drop k).take (n - k)
 | 0, k, hd, hkn, _ => by
  obtain rfl : k = n := by omega
  have hk : k < l.length := by omega
  have hg : l.getD k 0 = l[k] := by rw [List.getD_eq_getElem?_getD, List.getElem?_eq_getElem hk]; rfl
  rw [chunk_at l k j (by omega) hk, if_pos (by rw [← hg]; exact h38)]; simp
 | d + 1, k, hd, hkn, h => by
  have hk : k < l.length := by omega
  rw [chunk_at l k j (by omega) hk, if_neg (h k (by omega) (by omega) hk), chunk_mid l n j hn hj h38 d (k + 1) (by omega) (by omega) (fun q h1 h2 h3 => h q (by omega) h2 h3), List.drop_eq_getElem_cons hk, show n - k = (n - (k + 1)) + 1 by omega, List.take_succ_cons]
theorem spMap_nil (v : Bool) : spMap v [] = [] := by cases v <;> rfl
theorem data_end (l : List UInt8) (v : Bool) (k j f : Nat) (out : List UInt8) (hkj : k ≤ j) (hj : j ≤ l.length) (hf : j - k < f) (h : ∀ q, k ≤ q → q < j → ∀ h : q < l.length, l[q] ≠ 38) : contF l j v f k out = (out ++ spMap v (linesP ((l.drop k).take (j - k))), (j : Int), 0) := by
 obtain ⟨g, rfl⟩ : ∃ g, f = g + 1 := ⟨f - 1, by omega⟩
 rw [contF]
 by_cases hk : k < j
 ·have hkl : k < l.length := by omega
  have hg : l.getD k 0 = l[k] := by rw [List.getD_eq_getElem?_getD, List.getElem?_eq_getElem hkl]; rfl
  rw [if_pos hk, if_neg (by rw [hg]; exact h k (Nat.le_refl _) hk hkl), chunk_eq l _ k j rfl hkj hj h]
  have hlen : ((l.drop k).take (j - k)).length = j - k := by rw [List.length_take, List.length_drop]; omega
  rw [hlen, show k + (j - k) = j by omega]
  obtain ⟨e, rfl⟩ : ∃ e, g = e + 1 := ⟨g - 1, by omega⟩
  rw [contF, if_neg (by omega)]
 ·obtain rfl : k = j := by omega
  rw [if_neg hk, Nat.sub_self, List.take_zero, show linesP [] = [] from rfl, spMap_nil, List.append_nil]
theorem data_amp (l : List UInt8) (v : Bool) (k n j f : Nat) (out : List UInt8) (hkn : k ≤ n) (hn : n < j) (hj : j ≤ l.length) (hf : j - k < f) (h : ∀ q, k ≤ q → q < n → ∀ h : q < l.length, l[q] ≠ 38) (h38 : l.getD n 0 = 38) :
  ∃ g, j - n ≤ g ∧ contF l j v f k out = if (refAt (l.take j) n).2.2 = 0 then contF l j v g (refAt (l.take j) n).2.1.toNat (out ++ spMap v (linesP ((l.drop k).take (n - k))) ++ eb (refAt (l.take j) n).1) else ([], (n : Int), (refAt (l.take j) n).2.2) := by
 obtain ⟨g, rfl⟩ : ∃ g, f = g + 1 := ⟨f - 1, by omega⟩
 by_cases hk : k < n
 ·have hkl : k < l.length := by omega
  have hg : l.getD k 0 = l[k] := by rw [List.getD_eq_getElem?_getD, List.getElem?_eq_getElem hkl]; rfl
  have hlen : ((l.drop k).take (n - k)).length = n - k := by rw [List.length_take, List.length_drop]; omega
  obtain ⟨e, rfl⟩ : ∃ e, g = e + 1 := ⟨g - 1, by omega⟩
  refine ⟨e, by omega, ?_⟩
  rw [contF, if_pos (by omega), if_neg (by rw [hg]; exact h k (Nat.le_refl _) hk hkl), chunk_mid l n j hn hj h38 _ k rfl hkn h, hlen, show k + (n - k) = n by omega, contF, if_pos hn, if_pos h38]
 ·obtain rfl : k = n := by omega
  refine ⟨g, by omega, ?_⟩
  rw [contF, if_pos hn, if_pos h38, Nat.sub_self, List.take_zero, show linesP [] = [] from rfl, spMap_nil, List.append_nil]
theorem dec_cut (s t : ByteArray) (k : Nat) (h0 : (decP (s ++ t) k).2 ≠ 0) (hm : k + (decP (s ++ t) k).2 ≤ s.size) : decP s k = decP (s ++ t) k := by
 have hk : k < s.size := by omega
 have hz : (s ++ t).size = s.size + t.size := ByteArray.size_append
 have hex : ∃ j, 1 ≤ j ∧ j ≤ 4 ∧ k + j ≤ (s ++ t).size ∧ hitB (s ++ t) k j = true := by
  apply Classical.byContradiction
  intro hno
  apply h0
  rw [dec_miss (s ++ t) k (by omega) fun j h1 h2 h3 => by
   cases hb : hitB (s ++ t) k j
   ·rfl
   ·exact absurd ⟨j, h1, h2, h3, hb⟩ hno]
 obtain ⟨j, h1, h2, h3, hb⟩ := hex
 have a2 := dec_hit (s ++ t) k j h1 h2 h3 hb
 rw [a2.2] at hm
 have a1 := dec_hit s k j h1 h2 hm (by rw [← hit_left s t k j h1 hm]; exact hb)
 rw [accZ_left s t k j (j - 1) (by omega)] at a2
 apply Prod.ext
 ·omega
 ·rw [a1.2, a2.2]
def nlF (t : ByteArray) : Nat → Nat → Nat
 | 0, k => k
 | f + 1, k => if k < t.size then (if (if k = 0 then qsB (decP t k).1 else qcB (decP t k).1) = true then nlF t f (k + (decP t k).2) else k) else k
def nlP (t : ByteArray) : Nat := nlF t (t.size + 1) 0
theorem ext_app (t : ByteArray) (j : Nat) : t.extract 0 j ++ t.extract j t.size = t := by
 apply kstr_ext
 rw [bapp, kext, kext, oBl, oBl, List.drop_zero, Nat.sub_zero, List.take_of_length_le (l := t.data.toList.drop j) (by rw [List.length_drop, bsl]; exact Nat.le_refl _), List.take_append_drop]
theorem ext_size (t : ByteArray) (j : Nat) (h : j ≤ t.size) : (t.extract 0 j).size = j := by rw [ByteArray.size_extract]; omega
def NmInv (t : ByteArray) (k : Nat) : Prop := ∀ j, k ≤ j → j ≤ t.size → isQB (t.extract 0 j) = qnAt (t.extract 0 j) k
theorem dec_ext (t : ByteArray) (k j : Nat) (hj : j ≤ t.size) (h0 : (decP t k).2 ≠ 0) (hm : k + (decP t k).2 ≤ j) : decP (t.extract 0 j) k = decP t k := by
 have e := ext_app t j
 have hz := ext_size t j hj
 generalize t.extract 0 j = a at *
 generalize t.extract j t.size = b at *
 subst e
 exact dec_cut a b k h0 (by omega)
theorem nm_step (t : ByteArray) (k : Nat) (hk : k < t.size) (h : k = 0 ∨ (0 < k ∧ NmInv t k)) (h0 : (decP t k).2 ≠ 0) : isQB (t.extract 0 (k + (decP t k).2)) = (if k = 0 then qsB (decP t k).1 else qcB (decP t k).1) ∧ ((if k = 0 then qsB (decP t k).1 else qcB (decP t k).1) = true → NmInv t (k + (decP t k).2)) := by
 have hok := decP_ok t k hk
 obtain ⟨o1, o2, _, _⟩ := hok
 have main : ∀ j, k + (decP t k).2 ≤ j → j ≤ t.size → isQB (t.extract 0 j) = ((if k = 0 then qsB (decP t k).1 else qcB (decP t k).1) && qnAt (t.extract 0 j) (k + (decP t k).2)) := by
  intro j h1 h2
  have hd := dec_ext t k j h2 h0 h1
  have hz := ext_size t j h2
  rcases h with rfl | ⟨hp, hi⟩
  ·rw [isQB_pos _ (by omega), hd, if_pos rfl, Nat.zero_add]
  ·rw [hi j (by omega) h2, qnAt_eq _ _ (by omega), hd, if_neg (show ¬ k = 0 by omega)]
   cases qcB (decP t k).1 <;> rfl
 refine ⟨?_, fun hc j h1 h2 => by rw [main j h1 h2, hc, Bool.true_and]⟩
 rw [main _ (Nat.le_refl _) o1, qnAt_end _ _ (by rw [ext_size t _ o1]; exact Nat.le_refl _), Bool.and_true]
theorem nm_eq (t : ByteArray) : ∀ f k, k ≤ t.size → (k = 0 ∨ (0 < k ∧ NmInv t k)) → nmF t 0 f k = nlF t f k
 | 0, _, _, _ => rfl
 | f + 1, k, hk, h => by
  rw [nmF, nlF]
  by_cases hlt : k < t.size
  ·rw [if_pos hlt, if_pos hlt]
   have hok := decP_ok t k hlt
   by_cases h0 : (decP t k).2 = 0
   ·have hr := hok.2.2.2 h0
    have hc : (if k = 0 then qsB (decP t k).1 else qcB (decP t k).1) = false := by rw [hr]; split <;> decide
    rw [if_pos h0, hc, if_neg (by decide)]
   ·obtain ⟨s1, s2⟩ := nm_step t k hlt h h0
    rw [if_neg h0, s1]
    by_cases hc : (if k = 0 then qsB (decP t k).1 else qcB (decP t k).1) = true
    ·rw [if_pos hc, if_pos hc]
     exact nm_eq t f _ hok.1 (.inr ⟨by omega, s2 hc⟩)
    ·rw [if_neg hc, if_neg hc]
  ·rw [if_neg hlt, if_neg hlt]
theorem nmP_zero (t : ByteArray) : nmP t 0 = nlP t := nm_eq t _ 0 (Nat.zero_le _) (.inl rfl)
theorem nmP_rest (s : ByteArray) (i : Nat) (hi : i ≤ s.size) : nmP s i = i + nlP (oB (s.data.toList.drop i)) := by
 have e := ext_app s i
 have hz := ext_size s i hi
 have hb : s.extract i s.size = oB (s.data.toList.drop i) := by rw [kext, List.take_of_length_le (by rw [List.length_drop, bsl]; exact Nat.le_refl _)]
 rw [hb] at e
 rw [← nmP_zero]
 generalize oB (s.data.toList.drop i) = b at *
 generalize s.extract 0 i = a at *
 subst e
 have := nmP_right a b 0
 rw [hz, Nat.add_zero] at this
 exact this
theorem nlF_le (t : ByteArray) : ∀ f k, k ≤ t.size → k ≤ nlF t f k ∧ nlF t f k ≤ t.size
 | 0, k, h => ⟨Nat.le_refl _, h⟩
 | f + 1, k, h => by
  rw [nlF]
  by_cases hk : k < t.size
  ·have hok := decP_ok t k hk
   rw [if_pos hk]
   by_cases hc : (if k = 0 then qsB (decP t k).1 else qcB (decP t k).1) = true
   ·rw [if_pos hc]
    have := nlF_le t f (k + (decP t k).2) hok.1
    omega
   ·rw [if_neg hc]; exact ⟨Nat.le_refl _, h⟩
  ·rw [if_neg hk]; exact ⟨Nat.le_refl _, h⟩
theorem nlP_le (t : ByteArray) : nlP t ≤ t.size := (nlF_le t _ 0 (Nat.zero_le _)).2
theorem isQB_nl (t : ByteArray) : isQB t = (decide (0 < t.size) && decide (nlP t = t.size)) := by
 have key : ∀ f k, t.size - k < f → k ≤ t.size → 0 < k → qnAt t k = decide (nlF t f k = t.size) := by
  intro f
  induction f with
  | zero => intro k h; omega
  | succ f ih =>
   intro k hf hk h0
   rw [nlF]
   by_cases hlt : k < t.size
   ·have hok := decP_ok t k hlt
    rw [if_pos hlt, qnAt_eq t k hlt, if_neg (show ¬ k = 0 by omega)]
    by_cases hc : qcB (decP t k).1 = true
    ·have hp := pos_of_qn t k hlt hc
     rw [if_pos hc, if_pos hc]
     exact ih _ (by omega) hok.1 (by omega)
    ·rw [if_neg hc, if_neg hc, decide_eq_false (by omega)]
   ·rw [if_neg hlt, qnAt_end t k (by omega), decide_eq_true (by omega)]
 by_cases h0 : 0 < t.size
 ·have hok := decP_ok t 0 h0
  rw [isQB_pos t h0, decide_eq_true h0, Bool.true_and]
  unfold nlP
  rw [nlF, if_pos h0, if_pos rfl]
  by_cases hc : qsB (decP t 0).1 = true
  ·have hp := pos_of_qn t 0 h0 (by
    cases h : qcB (decP t 0).1 with
    | true => rfl
    | false => rw [qs_char _ h] at hc; exact absurd hc (by decide))
   rw [hc, Bool.true_and, if_pos rfl, Nat.zero_add]
   exact key _ _ (by omega) (by omega) hp
  ·rw [if_neg hc, decide_eq_false (by omega)]
   simp only [Bool.not_eq_true] at hc
   rw [hc]; rfl
 ·unfold isQB
  rw [decide_eq_false h0]; rfl
theorem pre_has (l t : List UInt8) (i : Nat) : t.isPrefixOf (l.drop i) = hasP l (i : Int) t := by
 unfold hasP
 rw [Int.toNat_natCast, decide_eq_true (by omega), Bool.true_and]
end
section
open Go.RowKit
def Cur (w : World) (p : Nat) (s : ByteArray) (k : Int) : Prop := w.heap[p]? = some (.cells #[.string s, .int .i64 k] 84 (0, 0))
theorem Cur.lt {w : World} {p : Nat} {s : ByteArray} {k : Int} (h : Cur w p s k) : p < w.heap.size := (Array.getElem?_eq_some_iff.1 h).1
theorem Cur.c0 {w : World} {p : Nat} {s : ByteArray} {k : Int} (h : Cur w p s k) : w.cell? ⟨p, 0, none⟩ = some (.string s) := by rw [cell_of_row w p _ _ _ _ h]; rfl
theorem Cur.c1 {w : World} {p : Nat} {s : ByteArray} {k : Int} (h : Cur w p s k) : w.cell? ⟨p, 1, none⟩ = some (.int .i64 k) := by rw [cell_of_row w p _ _ _ _ h]; rfl
theorem Cur.f1 {w : World} {p : Nat} {s : ByteArray} {k : Int} (h : Cur w p s k) : w.frozen? ⟨p, 1, none⟩ = false := frozen_of_row w p 1 _ _ h
theorem Cur.keep {w w' : World} {p : Nat} {s : ByteArray} {k : Int} (h : Cur w p s k) (hb : Below w.heap.size w w') : Cur w' p s k := (hb.block p h.lt).trans h
theorem Cur.set {w : World} {p : Nat} {s : ByteArray} {k : Int} (h : Cur w p s k) (k' : Int) : Cur (w.setCell ⟨p, 1, none⟩ (.int .i64 k')) p s k' := by
 unfold Cur at *
 rw [heap_setCell_same w p 1 _ _ _ h]
 rfl
theorem Cur.own {w : World} {p : Nat} {s : ByteArray} {k : Int} (h : Cur w p s k) {q : Addr} (hq : q.block ≠ p) (u : Value) : Cur (w.setCell q u) p s k := (Below.heap_setCell w q u p (fun e => hq e.symm)).trans h
theorem Cur.new (w : World) (s : ByteArray) : Cur (w.alloc (.cells #[.string s, .int .i64 0] 84)) w.heap.size s 0 := heap_alloc_new w _
set_option maxHeartbeats 4000000 in
theorem cur_endedN (p : Nat) (s : ByteArray) (k : Int) (w : World) (hC : Cur w p s k) :
  Calls Tryz.prog 44 #[.pointer (some ⟨p, 0, none⟩)] w fun e w' => e = .returned (.bool (k == (s.size : Int))) ∧ ∃ n, w' = w.drewN n := by
 have c0 := hC.c0
 have c1 := hC.c1
 clear hC
 go_enter Tryz.func44, Tryz.ntmps44
 go_wp2
 go_quiet (fail)
 go_wp2
 go_ret
 exact ⟨rfl, _, rfl⟩
theorem cur_ended (p : Nat) (s : ByteArray) (k : Int) (w : World) (hC : Cur w p s k) :
  Calls Tryz.prog 44 #[.pointer (some ⟨p, 0, none⟩)] w fun e w' => e = .returned (.bool (k == (s.size : Int))) ∧ Below w.heap.size w w' :=
 (cur_endedN p s k w hC).mono fun _ _ ⟨h, n, hn⟩ => ⟨h, hn ▸ below_drewN (Below.refl _ _) n⟩
set_option maxHeartbeats 4000000 in
theorem cur_rest (p : Nat) (s : ByteArray) (k : Nat) (w : World) (hC : Cur w p s k) (hk : k ≤ s.size) :
  Calls Tryz.prog 86 #[.pointer (some ⟨p, 0, none⟩)] w fun e w' => e = .returned (.string (oB (s.data.toList.drop k))) ∧ Below w.heap.size w w' := by
 have c0 := hC.c0
 have c1 := hC.c1
 have hsl : s.data.toList.length = s.size := by simp
 have hsf : ∀ wx, _ := fun wx => slice_from s (k : Int) (by omega) (by omega) wx
 rw [Int.toNat_natCast, kext, List.take_of_length_le (by rw [List.length_drop]; omega)] at hsf
 clear hC hsl
 generalize oB (s.data.toList.drop k) = R at *
 go_enter Tryz.func86, Tryz.ntmps86
 go_wp2
 go_quiet (fail)
 go_wp2
 go_ret
 exact ⟨rfl, below_drewN (Below.refl _ _) _⟩
set_option maxHeartbeats 4000000 in
theorem cur_starts (p : Nat) (s t : ByteArray) (k : Nat) (b : Bool) (w : World) (hC : Cur w p s k) (hk : k ≤ s.size) (hb : hasP s.data.toList (k : Int) t.data.toList = b) :
  Calls Tryz.prog 62 #[.pointer (some ⟨p, 0, none⟩), .string t] w fun e w' => e = .returned (.bool b) ∧ Below w.heap.size w w' := by
 have cR := cur_rest p s k w hC hk
 have cH : ∀ wx, _ := fun wx => esc_HasPrefix (oB (s.data.toList.drop k)) t b wx (by rw [oBl, pre_has]; exact hb)
 clear hC hb
 generalize oB (s.data.toList.drop k) = R at *
 go_enter Tryz.func62, Tryz.ntmps62
 go_wp2_with fail
 refine cR.mono ?_
 rintro e w1 ⟨rfl, b1⟩
 (go_wp2_with fail); (refine (cH _).mono ?_); (rintro e w' ⟨rfl, rfl⟩)
 go_wp2
 go_ret
 exact ⟨rfl, b1⟩
set_option maxHeartbeats 4000000 in
theorem cur_skip_no (p : Nat) (s t : ByteArray) (k : Nat) (w : World) (hC : Cur w p s k) (hk : k ≤ s.size) (hb : hasP s.data.toList (k : Int) t.data.toList = false) :
  Calls Tryz.prog 43 #[.pointer (some ⟨p, 0, none⟩), .string t] w fun e w' => e = .returned (.bool false) ∧ Below w.heap.size w w' := by
 have cS := cur_starts p s t k false w hC hk hb
 clear hC hb
 go_enter Tryz.func43, Tryz.ntmps43
 go_wp2_with fail
 refine cS.mono ?_
 rintro e w1 ⟨rfl, b1⟩
 go_wp2
 go_ret
 exact ⟨rfl, b1⟩
set_option maxHeartbeats 4000000 in
theorem cur_skip_yes (p : Nat) (s t : ByteArray) (k : Nat) (w : World) (hC : Cur w p s k) (hk : k ≤ s.size) (hs : s.size ≤ 1000000) (ht : t.size ≤ 1000000) (hb : hasP s.data.toList (k : Int) t.data.toList = true) :
  Calls Tryz.prog 43 #[.pointer (some ⟨p, 0, none⟩), .string t] w fun e w' => e = .returned (.bool true) ∧ Cur w' p s ((k : Int) + (t.size : Int)) ∧ Keep p w w' := by
 have cS := cur_starts p s t k true w hC hk hb
 have hk6 : (k : Int) ≤ 1000000 := by omega
 have ht6 : (t.size : Int) ≤ 1000000 := by omega
 clear hb
 go_enter Tryz.func43, Tryz.ntmps43
 go_wp2_with fail
 refine cS.mono ?_
 rintro e w1 ⟨rfl, b1⟩
 have hC1 := hC.keep b1
 have hC2 := hC1.set ((k : Int) + (t.size : Int))
 have hK2 : Keep p w (w1.setCell ⟨p, 1, none⟩ (.int .i64 ((k : Int) + (t.size : Int)))) := (Keep.of b1).set 1 _
 have c1 := hC1.c1
 have f1 := hC1.f1
 have H2 := Lib.hid hC2
 have K2 := Lib.hid hK2
 clear hC hC1 hC2 hK2 b1 cS
 go_wp2
 go_ret
 exact ⟨rfl, H2.out, K2.out⟩
set_option maxHeartbeats 8000000 in
theorem cur_skipSpace (p : Nat) (s : ByteArray) (k : Nat) (w : World) (hC : Cur w p s k) (hk : k ≤ s.size) (hs : s.size ≤ 1000000) :
  Calls Tryz.prog 107 #[.pointer (some ⟨p, 0, none⟩)] w fun e w' => e = .returned (.bool (decide (k < spP s.data.toList k))) ∧ Cur w' p s (spP s.data.toList k : Nat) ∧ Keep p w w' := by
 have hsl : s.data.toList.length = s.size := by simp
 have HSL := Lib.hid hsl
 have c1 := hC.c1
 clear hsl
 go_enter Tryz.func107, Tryz.ntmps107
 go_wp2
 go_loopw [] (fun wr => ∃ j : Nat, k ≤ j ∧ j ≤ s.size ∧ spP s.data.toList k = spP s.data.toList j ∧ Cur wr p s j ∧ Keep p w wr) (fun wr => s.size - (intOf ((wr.cell? ⟨p, 1, none⟩).getD (.bool false))).toNat)
 case atStart => exact ⟨k, Nat.le_refl _, hk, rfl, hC, Keep.refl _ _⟩
 case round =>
  obtain ⟨j, hkj, hj, hrel, hJ, hK⟩ := hrel
  clear c1
  have cE := cur_ended p s j wr.drew hJ
  have c0 := hJ.c0
  have c1 := hJ.c1
  have hpz := hJ.lt
  have M1 := Lib.hid c1
  by_cases hlt : j < s.size
  ·have hjl : j < s.data.toList.length := by have := HSL.out; omega
   obtain ⟨x, hx⟩ : ∃ x, s[j]'hlt = x := ⟨_, rfl⟩
   have hxl : s.data.toList[j]'hjl = x := by rw [← hx]; simp [ByteArray.getElem_eq_getElem_data]
   have cI : ∀ wx, _ := fun wx => text_IsSpace (x.toNat : Int) wx
   have hne : ((j : Int) == (s.size : Int)) = false := by simp; omega
   rw [hne] at cE
   have hjz : (j : Int) < (s.size : Int) := by omega
   rcases hsp : spB x with _ | _
   ·have hv := hrel.trans (spP_no s.data.toList j hjl (by rw [hxl]; exact hsp))
    rw [show isSpaceB (x.toNat : Int) = false from hsp] at cI
    have HV := Lib.hid hv
    have HJ := Lib.hid hJ
    clear hv hrel hsp hJ hxl hne
    go_wp2
    go_region_held3 (fun w' => w'.cell? ⟨p, 0, none⟩ = some (.string s) ∧ w'.cell? ⟨p, 1, none⟩ = some (.int .i64 (j : Int))) (first | exact ⟨c0, c1⟩ | exact hS5) (first | (go_at_call 44; refine cE.mono ?_; rintro e w5 ⟨rfl, b5⟩; have hS5 : w5.cell? ⟨p, 0, none⟩ = some (.string s) ∧ w5.cell? ⟨p, 1, none⟩ = some (.int .i64 (j : Int)) := ⟨(b5.cell (p := ⟨p, 0, none⟩) hpz).trans c0, (b5.cell (p := ⟨p, 1, none⟩) hpz).trans c1⟩) | (go_at_call 95; refine (cI _).mono ?_; rintro e w' ⟨rfl, rfl⟩))
    have hJ5 : Cur w5 p s (j : Int) := Cur.keep (w := wr.drew) HJ.out b5
    have hK5 : Keep p w w5 := hK.drew.more b5
    clear hS5 cE c0 c1
    have g1 := hJ5.c1
    have H5 := Lib.hid hJ5
    have K5 := Lib.hid hK5
    clear hJ5 hK5
    go_wp2
    go_ret
    exact ⟨kretB (by rw [HV.out]), by rw [HV.out]; exact H5.out, K5.out⟩
   ·have hv := hrel.trans (spP_yes s.data.toList j hjl (by rw [hxl]; exact hsp))
    rw [show isSpaceB (x.toNat : Int) = true from hsp] at cI
    have HV := Lib.hid hv
    have HJ := Lib.hid hJ
    clear hv hrel hsp hJ hxl hne
    go_wp2
    go_region_held3 (fun w' => w'.cell? ⟨p, 0, none⟩ = some (.string s) ∧ w'.cell? ⟨p, 1, none⟩ = some (.int .i64 (j : Int))) (first | exact ⟨c0, c1⟩ | exact hS5) (first | (go_at_call 44; refine cE.mono ?_; rintro e w5 ⟨rfl, b5⟩; have hS5 : w5.cell? ⟨p, 0, none⟩ = some (.string s) ∧ w5.cell? ⟨p, 1, none⟩ = some (.int .i64 (j : Int)) := ⟨(b5.cell (p := ⟨p, 0, none⟩) hpz).trans c0, (b5.cell (p := ⟨p, 1, none⟩) hpz).trans c1⟩) | (go_at_call 95; refine (cI _).mono ?_; rintro e w' ⟨rfl, rfl⟩))
    have hJ5 : Cur w5 p s (j : Int) := Cur.keep (w := wr.drew) HJ.out b5
    have hK5 : Keep p w w5 := hK.drew.more b5
    clear hS5 cE c0 c1
    have g1 := hJ5.c1
    have gf := hJ5.f1
    have H5 := Lib.hid (hJ5.set ((j : Int) + 1))
    have K5 := Lib.hid (hK5.set 1 (.int .i64 ((j : Int) + 1)))
    clear hJ5 hK5
    go_wp2
    go_roundw
    case rel => exact ⟨j + 1, by omega, by omega, HV.out, H5.out, K5.out⟩
    case measure => rw [(Cur.c1 H5.out), M1.out]; simp [intOf]; omega
  ·obtain rfl : j = s.size := by omega
   have hv := hrel.trans (spP_end s.data.toList s.size (by have := HSL.out; omega))
   have HV := Lib.hid hv
   have HJ := Lib.hid hJ
   have cN : ∀ wx, Cur wx p s (s.size : Int) → _ := fun wx h => cur_endedN p s (s.size : Int) wx h
   rw [show ((s.size : Int) == (s.size : Int)) = true by simp] at cN
   clear hv hrel hJ
   go_wp2
   go_quiet (first | (go_at_call 44; refine Calls.quiet_of (cN _ ?_); exact HJ.out))
   have hJ5 : Cur (wr.drewN nq) p s (s.size : Int) := HJ.out
   have hK5 : Keep p w (wr.drewN nq) := hK.drewN nq
   clear cE c0 c1
   have g1 := hJ5.c1
   have H5 := Lib.hid hJ5
   have K5 := Lib.hid hK5
   clear hJ5 hK5
   go_wp2
   go_ret
   exact ⟨kretB (by rw [HV.out]), by rw [HV.out]; exact H5.out, K5.out⟩
end
end
section
section
open Go.RowKit
set_option maxHeartbeats 4000000 in
theorem tok_part (r : Int) (b : Bool) (w : World) (hT : HasSpans w) :
  Calls Tryz.prog 119 #[.int .i32 r, .bool b] w fun e w' => e = .returned (.bool (if b then qsB r else qcB r)) ∧ Below w.heap.size w w' := by
 have cS : ∀ wx, HasSpans wx → _ := fun wx h => text_IsNameStart r wx h
 have cC : ∀ wx, HasSpans wx → _ := fun wx h => text_IsNameChar r wx h
 by_cases h : r = 58
 ·subst h
  cases b
  all_goals
   go_enter Tryz.func119, Tryz.ntmps119
   go_wp2
   go_ret
   exact ⟨rfl, Below.refl _ _⟩
 ·have hb : (r == 58) = false := by simpa using h
  have e1 : qsB r = nameStartB r := by unfold qsB; rw [hb]; rfl
  have e2 : qcB r = nameCharB r := by unfold qcB; rw [hb]; rfl
  rw [e1, e2]
  generalize nameStartB r = x at *
  generalize nameCharB r = y at *
  clear e1 e2 h
  cases b
  ·go_enter Tryz.func119, Tryz.ntmps119
   (go_wp2_with fail); (refine (cC _ hT).mono ?_); (rintro e w1 ⟨rfl, b1⟩)
   go_wp2
   go_ret
   exact ⟨rfl, b1⟩
  ·go_enter Tryz.func119, Tryz.ntmps119
   (go_wp2_with fail); (refine (cS _ hT).mono ?_); (rintro e w1 ⟨rfl, b1⟩)
   go_wp2
   go_ret
   exact ⟨rfl, b1⟩
theorem part_pos (t : ByteArray) (k : Nat) (hk : k < t.size) (hc : (if k = 0 then qsB (decP t k).1 else qcB (decP t k).1) = true) : 0 < (decP t k).2 := by
 rcases Nat.eq_zero_or_pos (decP t k).2 with h0 | h0
 ·rw [(decP_ok t k hk).2.2.2 h0] at hc
  split at hc <;> exact absurd hc (by decide)
 ·exact h0
set_option maxHeartbeats 8000000 in
theorem tok_nameLength (t : ByteArray) (w : World) (hs : t.size ≤ 1000000) (hT : HasTabs w) :
  Calls Tryz.prog 101 #[.string t] w fun e w' => e = .returned (.int .i64 (nlP t)) ∧ Below w.heap.size w w' := by
 go_enter Tryz.func101, Tryz.ntmps101
 go_wp2
 go_loopw [3] (fun q wr => ∃ k f : Nat, k ≤ t.size ∧ q = .int .i64 k ∧ (nlP t = nlF t f k ∧ t.size - k < f) ∧ Below w.heap.size w wr) (fun q _ => t.size - (intOf q).toNat)
 case atStart => exact ⟨0, t.size + 1, Nat.zero_le _, rfl, ⟨rfl, by omega⟩, Below.refl _ _⟩
 case round =>
  obtain ⟨k, f, hk, rfl, ⟨hrel, hf⟩, hbel⟩ := hrel
  have hz := hbel.size
  have hT1 := HTb hT hbel
  have cD := text_Decode t k wr (by unfold maxLen; omega) hT1.1
  obtain ⟨f, rfl⟩ : ∃ g, f = g + 1 := ⟨f - 1, by omega⟩
  rw [nlF] at hrel
  by_cases hlt : k < t.size
  ·have hok := decP_ok t k hlt
   have hpos := part_pos t k hlt
   rw [decI_at t k hlt] at cD
   rw [if_pos hlt] at hrel
   generalize decP t k = d at *
   obtain ⟨r, m⟩ := d
   simp only at cD hok hrel hpos
   have hkz : (k : Int) ≤ 1000000 := by omega
   have cP : ∀ wx, HasSpans wx → _ := fun wx h => tok_part (r : Int) (decide (k = 0)) wx h
   have hm4 : (m : Int) ≤ 4 := by omega
   have hbz : ((k : Int) == 0) = decide (k = 0) := by
    rw [Bool.eq_iff_iff]; simp
   have hif : (if decide (k = 0) = true then qsB (r : Int) else qcB (r : Int)) = (if k = 0 then qsB (r : Int) else qcB (r : Int)) := by
    by_cases h0 : k = 0 <;> simp [h0]
   rw [hif] at cP
   generalize (if k = 0 then qsB (r : Int) else qcB (r : Int)) = c at *
   generalize decide (k = 0) = kb at *
   rcases c with _ | _
   ·have HR := Lib.hid (hrel.trans (if_neg (by decide)))
    clear hrel hpos hif
    go_wp2_with fail
    refine cD.mono ?_
    rintro e w1 ⟨rfl, b1⟩
    have t1 := (HTb hT1 b1).2
    go_wp2_with fail
    refine (cP _ t1).mono ?_
    rintro e w2 ⟨rfl, b2⟩
    go_wp2
    go_ret
    exact ⟨kretI (by rw [HR.out]), hbel.trans ((b1.trans (b2.mono b1.size)).mono hz)⟩
   ·have HR := Lib.hid (hrel.trans (if_pos rfl))
    have hp := hpos rfl
    clear hrel hpos hif
    go_wp2_with fail
    refine cD.mono ?_
    rintro e w1 ⟨rfl, b1⟩
    have t1 := (HTb hT1 b1).2
    go_wp2_with fail
    refine (cP _ t1).mono ?_
    rintro e w2 ⟨rfl, b2⟩
    go_wp2
    go_roundw
    case rel => exact ⟨k + m, f, by omega, by go_num, ⟨HR.out, by omega⟩, hbel.trans ((b1.trans (b2.mono b1.size)).mono hz)⟩
    case measure => simp [intOf]; omega
  ·have hd0 : decI t (k : Int) = (0, 0) := by rw [decI, if_pos (Or.inr (by omega))]
   rw [hd0] at cD
   rw [if_neg hlt] at hrel
   have HR := Lib.hid hrel
   have hkz : (k : Int) ≤ 1000000 := by omega
   have cP : ∀ wx, HasSpans wx → _ := fun wx h => tok_part 0 (decide (k = 0)) wx h
   have hbz : ((k : Int) == 0) = decide (k = 0) := by
    rw [Bool.eq_iff_iff]; simp
   rw [show (if decide (k = 0) = true then qsB 0 else qcB 0) = false by split <;> decide] at cP
   generalize decide (k = 0) = kb at *
   clear hrel hd0
   go_wp2_with fail
   refine cD.mono ?_
   rintro e w1 ⟨rfl, b1⟩
   have t1 := (HTb hT1 b1).2
   go_wp2_with fail
   refine (cP _ t1).mono ?_
   rintro e w2 ⟨rfl, b2⟩
   go_wp2
   go_ret
   exact ⟨kretI (by rw [HR.out]), hbel.trans ((b1.trans (b2.mono b1.size)).mono hz)⟩
set_option maxHeartbeats 4000000 in
theorem tok_qname (s : ByteArray) (w : World) (hs : s.size ≤ 1000000) (hT : HasTabs w) :
  Calls Tryz.prog 80 #[.string s] w fun e w' => e = .returned (.bool (isQB s)) ∧ Below w.heap.size w w' := by
 have HQ := Lib.hid (isQB_nl s)
 have cN := tok_nameLength s w hs hT
 have hemp : s.toList.isEmpty = decide (s.size = 0) := by
  rw [Lib.toList_data]
  have := Lib.size_eq s
  cases h : s.data.toList with
  | nil => rw [h] at this; simp at this; simp [this]
  | cons a b => rw [h] at this; simp at this; simp [this]
 by_cases h0 : s.size = 0
 ·have h1 : s.toList.isEmpty = true := by rw [hemp, decide_eq_true h0]
  have h2 : s.toList = [] := List.isEmpty_iff.1 h1
  have h3 : isQB s = false := by rw [HQ.out, decide_eq_false (by omega)]; rfl
  have H3 := Lib.hid h3
  clear hemp h0 h3
  go_enter Tryz.func80, Tryz.ntmps80
  go_wp2
  go_ret
  exact ⟨kretB H3.out.symm, Below.refl _ _⟩
 ·have h1 : s.toList.isEmpty = false := by rw [hemp, decide_eq_false h0]
  have h2 : ¬ s.toList = [] := fun e => by rw [e] at h1; simp at h1
  have h3 : isQB s = decide (nlP s = s.size) := by rw [HQ.out, decide_eq_true (by omega), Bool.true_and]
  have H3 := Lib.hid h3
  clear hemp h0 h3
  generalize nlP s = q at *
  go_enter Tryz.func80, Tryz.ntmps80
  go_wp2_with fail
  refine cN.mono ?_
  rintro e w1 ⟨rfl, b1⟩
  go_wp2
  go_ret
  exact ⟨kretB (by rw [H3.out]; rw [Bool.eq_iff_iff]; simp; omega), b1⟩
def TokT (w : World) : Prop := HasTabs w ∧ EscT w ∧ ∃ m, w.cell? ⟨3, 0, none⟩ = some (.int .i64 m)
theorem TokT_below {w w' : World} (h : TokT w) (hb : Below w.heap.size w w') : TokT w' := by
 obtain ⟨h1, h2, m, hm⟩ := h
 exact ⟨HTb h1 hb, EscT_below h2 hb, m, (hb.cell (kbl hm)).trans hm⟩
def TkT (p : Nat) (w : World) : Prop := ∃ w0, TokT w0 ∧ w0.heap.size ≤ p ∧ Below w0.heap.size w0 w
theorem TkT.tabs {p : Nat} {w : World} (h : TkT p w) : TokT w := by
 obtain ⟨w0, h1, _, h3⟩ := h
 exact TokT_below h1 h3
theorem TkT.keep {p : Nat} {w w' : World} (h : TkT p w) (k : Keep p w w') : TkT p w' := by
 obtain ⟨w0, h1, h2, h3⟩ := h
 exact ⟨w0, h1, h2, k.below h3 h2 h3.size⟩
theorem TkT.more {p : Nat} {w w' : World} (h : TkT p w) (b : Below w.heap.size w w') : TkT p w' := h.keep (Keep.of b)
theorem tok_rep (s old new : ByteArray) (w : World) (hs : s.size ≤ 1000000) (h1 : 1 ≤ old.size) (hn : new.size = 1) (hT : TokT w) :
  Calls Tryz.prog 88 #[.string s, .string old, .string new] w fun e w' => e = .returned (.string (oB (Lib.replaceAll s.data.toList old.data.toList new.data.toList))) ∧ Below w.heap.size w w' := by
 obtain ⟨_, _, m, hm⟩ := hT
 exact Tryz.strings_ReplaceAll s old new m w (by omega) hm h1 (by have := Lib.countB_le old h1 s.size s (Nat.le_refl _); rw [hn]; omega)
set_option maxHeartbeats 4000000 in
theorem tok_lineEnds (s : ByteArray) (w : World) (hs : s.size ≤ 1000000) (hT : TokT w) :
  Calls Tryz.prog 64 #[.string s] w fun e w' => e = .returned (.string (oB (linesP s.data.toList))) ∧ Below w.heap.size w w' := by
 have hsl : s.data.toList.length = s.size := by simp
 have hcl := crlf_len s.data.toList
 have c1 := tok_rep s ⟨#[13, 10]⟩ ⟨#[10]⟩ w hs (by decide) (by decide) hT
 rw [show (⟨#[13, 10]⟩ : ByteArray).data.toList = [13, 10] from rfl, show (⟨#[10]⟩ : ByteArray).data.toList = [10] from rfl, replaceAll_eq _ _ _ (by decide), rAll_crlf _ _ (Nat.le_refl _)] at c1
 have c2 : ∀ wx, TokT wx → _ := fun wx h => tok_rep (oB (crlf s.data.toList)) ⟨#[13]⟩ ⟨#[10]⟩ wx (by rw [oBz]; omega) (by decide) (by decide) h
 rw [oBl, show (⟨#[13]⟩ : ByteArray).data.toList = [13] from rfl, show (⟨#[10]⟩ : ByteArray).data.toList = [10] from rfl, replaceAll_eq _ _ _ (by decide), rAll_one, lines_eq] at c2
 generalize oB (crlf s.data.toList) = C at *
 generalize oB (linesP s.data.toList) = L at *
 clear hsl hcl
 go_enter Tryz.func64, Tryz.ntmps64
 go_wp2_with fail
 refine c1.mono ?_
 rintro e w1 ⟨rfl, b1⟩
 have t1 := TokT_below hT b1
 go_wp2_with fail
 refine (c2 _ t1).mono ?_
 rintro e w2 ⟨rfl, b2⟩
 go_wp2
 go_ret
 exact ⟨rfl, b1.trans (b2.mono b1.size)⟩
set_option maxHeartbeats 4000000 in
theorem tok_spaces (s : ByteArray) (w : World) (hs : s.size ≤ 1000000) (hT : TokT w) :
  Calls Tryz.prog 149 #[.string s] w fun e w' => e = .returned (.string (oB (spMap true (linesP s.data.toList)))) ∧ Below w.heap.size w w' := by
 have hsl : s.data.toList.length = s.size := by simp
 have hll := linesP_len s.data.toList
 have hml : (mapB 10 32 (linesP s.data.toList)).length = (linesP s.data.toList).length := by unfold mapB; rw [List.length_map]
 have c1 := tok_lineEnds s w hs hT
 have c2 : ∀ wx, TokT wx → _ := fun wx h => tok_rep (oB (linesP s.data.toList)) ⟨#[10]⟩ ⟨#[32]⟩ wx (by rw [oBz]; omega) (by decide) (by decide) h
 rw [oBl, show (⟨#[10]⟩ : ByteArray).data.toList = [10] from rfl, show (⟨#[32]⟩ : ByteArray).data.toList = [32] from rfl, replaceAll_eq _ _ _ (by decide), rAll_one] at c2
 have c3 : ∀ wx, TokT wx → _ := fun wx h => tok_rep (oB (mapB 10 32 (linesP s.data.toList))) ⟨#[9]⟩ ⟨#[32]⟩ wx (by rw [oBz]; omega) (by decide) (by decide) h
 rw [oBl, show (⟨#[9]⟩ : ByteArray).data.toList = [9] from rfl, show (⟨#[32]⟩ : ByteArray).data.toList = [32] from rfl, replaceAll_eq _ _ _ (by decide), rAll_one, spaces_eq] at c3
 generalize oB (spMap true (linesP s.data.toList)) = R at *
 generalize oB (mapB 10 32 (linesP s.data.toList)) = C at *
 generalize oB (linesP s.data.toList) = L at *
 clear hsl hll hml
 go_enter Tryz.func149, Tryz.ntmps149
 go_wp2_with fail
 refine c1.mono ?_
 rintro e w1 ⟨rfl, b1⟩
 have t1 := TokT_below hT b1
 go_wp2_with fail
 refine (c2 _ t1).mono ?_
 rintro e w2 ⟨rfl, b2⟩
 have t2 := TokT_below t1 b2
 go_wp2_with fail
 refine (c3 _ t2).mono ?_
 rintro e w3 ⟨rfl, b3⟩
 go_wp2
 go_ret
 exact ⟨rfl, (b1.trans (b2.mono b1.size)).trans (b3.mono (Nat.le_trans b1.size b2.size))⟩
end
section
open Go.RowKit
theorem Keep.low {p : Nat} {w w1 w2 : World} (h : Keep p w w1) (b : Below w.heap.size w1 w2) : Keep p w w2 :=
 ⟨b.os.trans h.os, b.tape.trans h.tape, b.output.trans h.output, Nat.le_trans h.size b.size, fun k hk hp => (b.block k hk).trans (h.block k hk hp)⟩
theorem Cur.low {w w' : World} {p B : Nat} {s : ByteArray} {k : Int} (h : Cur w p s k) (b : Below B w w') (hp : p < B) : Cur w' p s k := (b.block p hp).trans h
theorem bld_at_same {T e : TypeId} {B b : Nat} {q : Value} {bs : List Value} {w w' : World} (h : Lib.BuilderAtF T e B b q bs w) (hk : ∀ x, B ≤ x → x < w.heap.size → w'.heap[x]? = w.heap[x]?) : Lib.BuilderAtF T e B b q bs w' := by
 obtain ⟨hB, v, hh, hown, hne⟩ := h
 refine ⟨hB, v, (hk b hB (Array.getElem?_eq_some_iff.1 hh).1).trans hh, ⟨hown.1, ?_⟩, hne⟩
 rcases hown.2 with hn | ⟨g, cap, cur, fz, hv, hbg, hg, rest⟩
 ·exact .inl hn
 ·exact .inr ⟨g, cap, cur, fz, hv, hbg, (hk g hbg (Array.getElem?_eq_some_iff.1 hg).1).trans hg, rest⟩
theorem Bld.same {B b : Nat} {l : List UInt8} {w w' : World} (h : Bld B b l w) (hk : ∀ x, B ≤ x → x < w.heap.size → w'.heap[x]? = w.heap[x]?) : Bld B b l w' := h.elim (fun x => .inl (bld_at_same x hk)) (fun x => .inr (bld_at_same x hk))
theorem Bld.set {B b p : Nat} {l : List UInt8} {w : World} (h : Bld B b l w) (hp : p < B) (o : Nat) (u : Value) : Bld B b l (w.setCell ⟨p, o, none⟩ u) :=
 h.same fun x hx _ => Below.heap_setCell w ⟨p, o, none⟩ u x (fun e => by have : x = p := e; omega)
set_option maxHeartbeats 8000000 in
theorem cur_name (p : Nat) (s : ByteArray) (k : Nat) (w : World) (hC : Cur w p s k) (hk : k ≤ s.size) (hs : s.size ≤ 1000000) (hT : TkT p w) :
  Calls Tryz.prog 124 #[.pointer (some ⟨p, 0, none⟩)] w fun e w' => e = .returned (.string (oB ((s.data.toList.drop k).take (nmP s k - k)))) ∧ Cur w' p s (nmP s k : Nat) ∧ Keep p w w' := by
 have hsl : s.data.toList.length = s.size := by simp
 have hn := nmP_rest s k hk
 have hle := nmP_le s k hk
 have cR : ∀ wx, Cur wx p s k → _ := fun wx h => cur_rest p s k wx h hk
 have hRl : (oB (s.data.toList.drop k)).data.toList = s.data.toList.drop k := oBl _
 have hRz : (oB (s.data.toList.drop k)).size = s.size - k := by rw [oBz, List.length_drop, hsl]
 have cN : ∀ wx, HasTabs wx → _ := fun wx h => tok_nameLength (oB (s.data.toList.drop k)) wx (by omega) h
 have hnl := nlP_le (oB (s.data.toList.drop k))
 have hst : ∀ wx, _ := fun wx => slice_to (oB (s.data.toList.drop k)) (nlP (oB (s.data.toList.drop k)) : Nat) (by omega) (by omega) wx
 rw [Int.toNat_natCast, kext, hRl, List.drop_zero, Nat.sub_zero] at hst
 rw [show nmP s k - k = nlP (oB (s.data.toList.drop k)) by omega, hn]
 have hNz : (oB ((s.data.toList.drop k).take (nlP (oB (s.data.toList.drop k))))).size = nlP (oB (s.data.toList.drop k)) := by
  rw [oBz, List.length_take, List.length_drop]; omega
 generalize oB ((s.data.toList.drop k).take (nlP (oB (s.data.toList.drop k)))) = NM at *
 generalize nlP (oB (s.data.toList.drop k)) = n at *
 generalize oB (s.data.toList.drop k) = R at *
 have hk6 : (k : Int) ≤ 1000000 := by omega
 have hn6 : (n : Int) ≤ 1000000 := by omega
 have HC := Lib.hid hC
 have hNz2 : (NM.size : Int) = (n : Int) := by omega
 have HNZ := Lib.hid hNz2
 clear hn hle hRl hRz hnl hNz hsl hC hNz2
 go_enter Tryz.func124, Tryz.ntmps124
 go_wp2_with fail
 refine (cR _ HC.out).mono ?_
 rintro e w1 ⟨rfl, b1⟩
 have C1 := Lib.hid (Cur.keep HC.out b1)
 go_wp2_with fail
 refine (cR _ C1.out).mono ?_
 rintro e w2 ⟨rfl, b2⟩
 have C2 := Lib.hid (Cur.keep C1.out b2)
 have t2 := ((hT.more b1).more b2).tabs.1
 go_wp2_with fail
 refine (cN _ t2).mono ?_
 rintro e w3 ⟨rfl, b3⟩
 have C3 := Lib.hid (Cur.keep C2.out b3)
 have K3 := Lib.hid (((Keep.of (p := p) b1).more b2).more b3)
 have q1 := Cur.c1 C3.out
 have f1 := Cur.f1 C3.out
 have C4 := Lib.hid (Cur.set C3.out ((k : Int) + (n : Int)))
 have K4 := Lib.hid (Keep.set K3.out 1 (.int .i64 ((k : Int) + (n : Int))))
 have hz9 : (NM.size : Int) = n := HNZ.out
 clear b1 b2 b3 t2 cR cN
 go_wp2
 go_ret
 exact ⟨rfl, by rw [show ((k + n : Nat) : Int) = (k : Int) + (n : Int) by omega]; exact C4.out, K4.out⟩
theorem skipP_def (l : List UInt8) (i n : Nat) (t : List UInt8) : skipP l i n t = if nextP l (i + n) t < 0 then ((i : Int), 8) else (nextP l (i + n) t + (t.length : Int), 0) := rfl
theorem nextP_def (l : List UInt8) (i : Nat) (t : List UInt8) : nextP l i t = if Lib.index (l.drop i) t = -1 then -1 else (i : Int) + Lib.index (l.drop i) t := rfl
set_option maxHeartbeats 8000000 in
theorem cur_section (p : Nat) (s o t : ByteArray) (k : Nat) (w : World) (hC : Cur w p s k) (hk : k + o.size ≤ s.size) (hs : s.size ≤ 1000000) (ho : o.size ≤ 100) (ht : t.size ≤ 100) (ht0 : 0 < t.size) (hT : TkT p w) :
  Calls Tryz.prog 63 #[.pointer (some ⟨p, 0, none⟩), .string o, .string t] w fun e w' => (∃ x, e = .returned (.tuple #[.string x, .int .i64 (skipP s.data.toList k o.size t.data.toList).2]) ∧ ((skipP s.data.toList k o.size t.data.toList).2 = 0 → x = oB ((s.data.toList.drop (k + o.size)).take ((skipP s.data.toList k o.size t.data.toList).1.toNat - t.size - (k + o.size))))) ∧ Cur w' p s (skipP s.data.toList k o.size t.data.toList).1 ∧ Keep p w w' := by
 have hsl : s.data.toList.length = s.size := by simp
 have htl : t.data.toList.length = t.size := by simp
 have hsk := skipP_def s.data.toList k o.size t.data.toList
 rw [nextP_def, htl] at hsk
 have cR : ∀ wx, Cur wx p s k → _ := fun wx h => cur_rest p s k wx h (by omega)
 have hRl : (oB (s.data.toList.drop k)).data.toList = s.data.toList.drop k := oBl _
 have hRz : (oB (s.data.toList.drop k)).size = s.size - k := by rw [oBz, List.length_drop, hsl]
 have hsf : ∀ wx, _ := fun wx => slice_from (oB (s.data.toList.drop k)) (o.size : Nat) (by omega) (by omega) wx
 rw [Int.toNat_natCast, kext, hRl, List.take_of_length_le (by rw [List.length_drop, List.length_drop, hRz]; omega), List.drop_drop] at hsf
 have hQl : (oB (s.data.toList.drop (k + o.size))).data.toList = s.data.toList.drop (k + o.size) := oBl _
 have hQz : (oB (s.data.toList.drop (k + o.size))).size = s.size - (k + o.size) := by rw [oBz, List.length_drop, hsl]
 obtain ⟨m, hm⟩ := hT.tabs.2.2
 have hmb := kbl hm
 have cC : ∀ wx : World, wx.cell? ⟨3, 0, none⟩ = some (Value.int .i64 m) → _ := fun wx h => Tryz.strings_Cut (oB (s.data.toList.drop (k + o.size))) t m wx (by omega) h
 rw [hQl] at cC
 have hroom := index_room (s.data.toList.drop (k + o.size)) t.data.toList
 rw [htl, List.length_drop, hsl] at hroom
 have hk6 : (k : Int) ≤ 1000000 := by omega
 have ho6 : (o.size : Int) ≤ 100 := by omega
 have ht6 : (t.size : Int) ≤ 100 := by omega
 have HC := Lib.hid hC
 by_cases hi : Lib.index (s.data.toList.drop (k + o.size)) t.data.toList = -1
 ·rw [if_pos hi, if_pos (by decide)] at hsk
  have hcut : Lib.cut (s.data.toList.drop (k + o.size)) t.data.toList = (s.data.toList.drop (k + o.size), [], false) := by
   unfold Lib.cut; rw [if_neg (by omega)]
  rw [hcut] at cC
  rw [hsk]
  simp only at cC
  generalize (⟨(s.data.toList.drop (k + o.size)).toArray⟩ : ByteArray) = Q2 at *
  generalize oB (s.data.toList.drop (k + o.size)) = Q at *
  generalize oB (s.data.toList.drop k) = R at *
  clear hi hroom hsk hcut hsl htl hQl hQz hRl hRz hC
  go_enter Tryz.func63, Tryz.ntmps63
  go_wp2_with fail
  refine (cR _ HC.out).mono ?_
  rintro e w1 ⟨rfl, b1⟩
  have C1 := Lib.hid (Cur.keep HC.out b1)
  have hm1 := (b1.cell hmb).trans hm
  go_wp2_with fail
  refine (cC _ hm1).mono ?_
  rintro e w2 ⟨rfl, n, rfl⟩
  go_wp2
  exact bodyPost_ret (v := .tuple #[.string ⟨#[]⟩, .int .i64 8]) (by simp [results, Tryz.results63, go_sem]) rfl ⟨⟨_, rfl, fun h => absurd h (by decide)⟩, C1.out, (Keep.of b1).drewN n⟩
 ·have hge := Lib.index_ge (s.data.toList.drop (k + o.size)) t.data.toList
  obtain ⟨i, hiv⟩ := Int.eq_ofNat_of_zero_le (show 0 ≤ Lib.index (s.data.toList.drop (k + o.size)) t.data.toList by omega)
  have hr := hroom hi
  rw [if_neg hi, if_neg (by omega)] at hsk
  have hcut : Lib.cut (s.data.toList.drop (k + o.size)) t.data.toList = ((s.data.toList.drop (k + o.size)).take i, (s.data.toList.drop (k + o.size)).drop (i + t.size), true) := by
   unfold Lib.cut; rw [if_pos (by omega), hiv, Int.toNat_natCast, htl]
  rw [hcut] at cC
  rw [hiv] at hsk hr
  rw [hsk]
  simp only at cC
  have hx : (((k + o.size : Nat) : Int) + (i : Int) + (t.size : Int)).toNat - t.size - (k + o.size) = i := by omega
  simp only [hx]
  have hIz : (oB ((s.data.toList.drop (k + o.size)).take i)).size = i := by rw [oBz, List.length_take, List.length_drop, hsl]; omega
  have hI6 : (i : Int) ≤ 1000000 := by omega
  have hpl : ((k + o.size : Nat) : Int) + (i : Int) + (t.size : Int) = (k : Int) + ((o.size : Int) + (i : Int) + (t.size : Int)) := by omega
  rw [hpl]
  change ∀ wx : World, wx.cell? _ = _ → Calls _ _ _ wx fun e w' => e = .returned (.tuple #[.string (oB ((s.data.toList.drop (k + o.size)).take i)), _, _]) ∧ _ at cC
  generalize oB ((s.data.toList.drop (k + o.size)).take i) = I at *
  generalize (⟨((s.data.toList.drop (k + o.size)).drop (i + t.size)).toArray⟩ : ByteArray) = Q2 at *
  generalize oB (s.data.toList.drop (k + o.size)) = Q at *
  generalize oB (s.data.toList.drop k) = R at *
  have hIz2 : (I.size : Int) = (i : Int) := by omega
  clear hi hroom hsk hcut hsl htl hQl hQz hRl hRz hC hge hiv hr hx hpl hIz
  go_enter Tryz.func63, Tryz.ntmps63
  go_wp2_with fail
  refine (cR _ HC.out).mono ?_
  rintro e w1 ⟨rfl, b1⟩
  have C1 := Lib.hid (Cur.keep HC.out b1)
  have hm1 := (b1.cell hmb).trans hm
  go_wp2_with fail
  refine (cC _ hm1).mono ?_
  rintro e w2 ⟨rfl, n, rfl⟩
  have C2 : Hid (Cur (w1.drewN n) p s (k : Int)) := Lib.hid C1.out
  have K2 := Lib.hid ((Keep.of (p := p) b1).drewN n)
  have q1 := Cur.c1 C2.out
  have f1 := Cur.f1 C2.out
  have C4 := Lib.hid (Cur.set C2.out ((k : Int) + ((o.size : Int) + (i : Int) + (t.size : Int))))
  have K4 := Lib.hid (Keep.set K2.out 1 (.int .i64 ((k : Int) + ((o.size : Int) + (i : Int) + (t.size : Int)))))
  generalize w1.drewN n = w2 at *
  clear b1 hm1 cR cC
  go_wp2
  exact bodyPost_ret (v := .tuple #[.string I, .int .i64 0]) (by simp [results, Tryz.results63, go_sem]) rfl ⟨⟨_, rfl, fun _ => rfl⟩, C4.out, K4.out⟩
end
end
section
open Go.RowKit
def DatR (w wx : World) (p : Nat) (s : ByteArray) (i : Int) (acc : List UInt8) : Prop := Cur wx p s i ∧ Keep p w wx ∧ Bld w.heap.size w.heap.size acc wx
theorem DatR.cur {w wx : World} {p : Nat} {s : ByteArray} {i : Int} {acc : List UInt8} (h : DatR w wx p s i acc) : Cur wx p s i := h.1
theorem DatR.keep {w wx : World} {p : Nat} {s : ByteArray} {i : Int} {acc : List UInt8} (h : DatR w wx p s i acc) : Keep p w wx := h.2.1
theorem DatR.bld {w wx : World} {p : Nat} {s : ByteArray} {i : Int} {acc : List UInt8} (h : DatR w wx p s i acc) : Bld w.heap.size w.heap.size acc wx := h.2.2
theorem DatR.more {w wx wy : World} {p : Nat} {s : ByteArray} {i : Int} {acc : List UInt8} (h : DatR w wx p s i acc) (b : Below wx.heap.size wx wy) : DatR w wy p s i acc := ⟨h.1.keep b, h.2.1.more b, h.2.2.below b⟩
theorem DatR.drew {w wx : World} {p : Nat} {s : ByteArray} {i : Int} {acc : List UInt8} (h : DatR w wx p s i acc) : DatR w wx.drew p s i acc := h.more (Below.refl _ _).drew
theorem DatR.low {w wx wy : World} {p : Nat} {s : ByteArray} {i : Int} {acc acc' : List UInt8} (h : DatR w wx p s i acc) (b : Below w.heap.size wx wy) (hB : Bld w.heap.size w.heap.size acc' wy) (hp : p < w.heap.size) : DatR w wy p s i acc' := ⟨h.1.low b hp, h.2.1.low b, hB⟩
theorem DatR.set {w wx : World} {p : Nat} {s : ByteArray} {i : Int} {acc : List UInt8} (h : DatR w wx p s i acc) (hp : p < w.heap.size) (k : Int) : DatR w (wx.setCell ⟨p, 1, none⟩ (.int .i64 k)) p s k acc := ⟨h.1.set k, h.2.1.set 1 _, h.2.2.set hp 1 _⟩
theorem tok_lines0 (s : ByteArray) (w : World) (hs : s.size ≤ 1000000) (hT : TokT w) :
  Calls Tryz.prog 64 #[.string s] w fun e w' => e = .returned (.string (oB (spMap false (linesP s.data.toList)))) ∧ Below w.heap.size w w' := tok_lineEnds s w hs hT
set_option maxHeartbeats 16000000 in
theorem cur_data_false (p : Nat) (s st : ByteArray) (k : Nat) (S : List UInt8) (w : World) (hC : Cur w p s k) (hk : k ≤ s.size) (hs : s.size ≤ 1000000) (hS : Stops S) (hst : st.data.toList = S) (hz1 : 1 ≤ st.size) (hz2 : st.size ≤ 10) (hT : TkT p w) :
  Calls Tryz.prog 66 #[.pointer (some ⟨p, 0, none⟩), .string st, .func (.func 64) #[] #[]] w fun e w' => e = .returned (.tuple #[.string (oB (contP s.data.toList k (stopAt S s.data.toList k) false).1), .int .i64 (contP s.data.toList k (stopAt S s.data.toList k) false).2.2]) ∧ Cur w' p s (contP s.data.toList k (stopAt S s.data.toList k) false).2.1 ∧ Keep p w w' := by
 have hsl : s.data.toList.length = s.size := by simp
 have HSL := Lib.hid hsl
 obtain ⟨j, hj⟩ : ∃ j, stopAt S s.data.toList k = j := ⟨_, rfl⟩
 have hjl := stopAt_le S s.data.toList k (by omega)
 rw [hj] at hjl ⊢
 have HJ := Lib.hid hj
 have hfr := bld_fresh w
 have hpw := hC.lt
 have hS38 : S.contains 38 = false := by
  rw [Bool.eq_false_iff]
  intro hc
  rcases hS 38 (by simpa using hc) with h | h | h <;> exact absurd h (by decide)
 have HS38 := Lib.hid hS38
 have HS := Lib.hid hS
 have hD0 : DatR w (w.alloc (.cells #[.pointer none, .slice none 0 0] 46)) p s k [] := ⟨hC.keep ((Below.refl _ _).alloc (Nat.le_refl _) _), (Keep.refl _ _).alloc _, hfr⟩
 obtain ⟨CS, hCS⟩ : ∃ CS, CS = (⟨#[38]⟩ : ByteArray) ++ st := ⟨_, rfl⟩
 have hCl : CS.data.toList = 38 :: S := by rw [hCS, bapp, hst]; rfl
 have hCz : CS.size = st.size + 1 := by rw [hCS, ByteArray.size_append, show (⟨#[38]⟩ : ByteArray).size = 1 from rfl]; omega
 have hal : ∀ c ∈ CS.data.toList, c.toNat < 128 := by
  intro c hc
  rw [hCl] at hc
  rcases List.mem_cons.1 hc with rfl | hc
  ·decide
  ·rcases hS c hc with rfl | rfl | rfl <;> decide
 have HCS := Lib.hid hCS
 clear hsl hj hfr hC hS38 hS hCS hst
 go_enter Tryz.func66, Tryz.ntmps66
 go_wp2
 go_loopw [] (fun wr => ∃ (i f : Nat) (acc : List UInt8), k ≤ i ∧ i ≤ j ∧ (contP s.data.toList k j false = contF s.data.toList j false f i acc ∧ j - i < f) ∧ acc.length ≤ 4 * i ∧ DatR w wr p s i acc) (fun wr => s.size - (intOf ((wr.cell? ⟨p, 1, none⟩).getD (.bool false))).toNat)
 case atStart => exact ⟨k, j + 1, [], Nat.le_refl _, hjl.1, ⟨rfl, by omega⟩, by simp, hD0⟩
 case round =>
  obtain ⟨i, f, acc, hki, hij, ⟨hrel, hf⟩, hacc, hD⟩ := hrel
  clear hD0
  have M1 := Lib.hid (hD.1.c1)
  have hil : i ≤ s.data.toList.length := by omega
  have hmid : stopAt S s.data.toList i = j := (stopAt_mid S _ k i hki (by rw [HJ.out]; exact hij) (by omega)).trans HJ.out
  obtain ⟨hsp1, hsp2⟩ := stopAt_spec S s.data.toList _ i (Nat.le_refl _)
  rw [hmid] at hsp1 hsp2
  have cR : ∀ wx, Cur wx p s i → _ := fun wx h => cur_rest p s i wx h (by have := HSL.out; omega)
  have hRl : (oB (s.data.toList.drop i)).data.toList = s.data.toList.drop i := oBl _
  have hRz : (oB (s.data.toList.drop i)).size = s.size - i := by rw [oBz, List.length_drop, HSL.out]
  have cI : ∀ wx, _ := fun wx => idx_any (oB (s.data.toList.drop i)) CS wx (by omega) (by omega) (by omega) hal
  rw [hRl, hCl] at cI
  have hi6 : (i : Int) ≤ 1000000 := by have := HSL.out; omega
  have hi0 : (0 : Int) ≤ (i : Int) := by omega
  have main : ∀ (n : Nat) (A : List UInt8), i + n ≤ s.data.toList.length → A = spMap false (linesP ((s.data.toList.drop i).take n)) → ((oB A).size ≤ n ∧ A.length ≤ n ∧ A.length ≤ 1000000) := by
   intro n A hn hA
   have h1 := linesP_len ((s.data.toList.drop i).take n)
   have h2 : ((s.data.toList.drop i).take n).length ≤ n := List.length_take_le _ _
   have h3 := spMap_len false (linesP ((s.data.toList.drop i).take n))
   have h4 : A.length ≤ n := by rw [hA]; first | omega | (rw [h3]; omega)
   exact ⟨by rw [oBz]; exact h4, h4, by have := HSL.out; omega⟩
  rcases ia_cases (38 :: S) (s.data.toList.drop i) with ⟨h1, h2⟩ | ⟨n, h1, hn, h3, h4⟩
  ·have hn0 : ((s.data.toList.drop i).take (s.data.toList.length - i)) = s.data.toList.drop i := List.take_of_length_le (by rw [List.length_drop]; omega)
   have hjj : j = s.data.toList.length := by
    rw [← hmid, stopAt_run S _ (s.data.toList.length - i) i (by omega) (fun x hx => by rw [hn0] at hx; have := h2 x hx; rw [List.contains_cons, Bool.or_eq_false_iff] at this; exact this.2), show i + (s.data.toList.length - i) = s.data.toList.length by omega, stopAt_end _ _ _ (Nat.le_refl _)]
   have hno38 : ∀ q, i ≤ q → q < j → ∀ h : q < s.data.toList.length, s.data.toList[q] ≠ 38 := by
    intro q hq1 hq2 hq3 he
    have hmem : s.data.toList[q] ∈ s.data.toList.drop i := List.mem_drop_iff_getElem.2 ⟨q - i, by omega, by simp [show i + (q - i) = q by omega]⟩
    have := h2 _ hmem
    rw [he] at this
    simp at this
   have HR := Lib.hid (hrel.trans (data_end s.data.toList false i j f acc hij (by omega) hf hno38))
   have hjn : j - i = s.size - i := by have := HSL.out; omega
   rw [hjn] at HR
   rw [h1] at cI
   have hb0 : hasP s.data.toList ((i + (s.size - i) : Nat) : Int) [38] = false := by
    rw [← pre_has, List.drop_eq_nil_of_le (by have := HSL.out; omega)]; rfl
   obtain ⟨n, hnd⟩ : ∃ n, s.size - i = n := ⟨_, rfl⟩
   have hRz2 : ((oB (s.data.toList.drop i)).size : Int) = (n : Int) := by omega
   rw [hnd] at HR hb0
   have hin : i + n = s.size := by have := HSL.out; omega
   obtain ⟨m1, m2, m3⟩ := main n _ (by have := HSL.out; omega) rfl
   have hst : ∀ wx, _ := fun wx => slice_to (oB (s.data.toList.drop i)) (n : Int) (by omega) (by omega) wx
   rw [Int.toNat_natCast, kext, hRl, List.drop_zero, Nat.sub_zero] at hst
   have cF : ∀ wx, TokT wx → _ := fun wx h => tok_lines0 (oB ((s.data.toList.drop i).take n)) wx (by rw [oBz]; have := List.length_take_le n (s.data.toList.drop i); have := HSL.out; omega) h
   rw [oBl] at cF
   obtain ⟨A, hA⟩ : ∃ A, A = spMap false (linesP ((s.data.toList.drop i).take n)) := ⟨_, rfl⟩
   rw [← hA] at cF m1 m2 m3
   first | rw [← hA] at HR | rw [← hA] at hg2
   have hBA : (acc ++ A).length ≤ 4 * i + n := by rw [List.length_append]; omega
   have cW : ∀ wx, Bld w.heap.size w.heap.size acc wx → w.heap.size ≤ wx.heap.size → _ := fun wx h1 h2 => bld_WriteString w.heap.size w.heap.size acc (oB A) wx h1 (by have := HSL.out; omega) h2
   rw [oBl] at cW
   have cB : ∀ wx, Cur wx p s ((i : Int) + (n : Int)) → _ := fun wx h => cur_starts p s ⟨#[38]⟩ (i + n) _ wx (by rw [show ((i + n : Nat) : Int) = (i : Int) + (n : Int) by omega]; exact h) (by have := HSL.out; omega) hb0
   have cT : ∀ wx, Bld w.heap.size w.heap.size (acc ++ A) wx → w.heap.size ≤ wx.heap.size → _ := fun wx h1 h2 => bld_String w.heap.size w.heap.size (acc ++ A) wx h1 h2
   have hn6 : (n : Int) ≤ 1000000 := by have := HSL.out; omega
   generalize oB A = AS at *
   generalize oB ((s.data.toList.drop i).take n) = MS at *
   clear hA
   have hjs : (j : Int) = (i : Int) + (n : Int) := by have := HSL.out; omega
   rw [hjs] at HR
   clear hno38 hsp1 hsp2 h1 h2 hn0 hjj hmid hRl hjn hnd hRz main hrel hjs
   generalize oB (s.data.toList.drop i) = R at *
   go_wp2_with fail
   refine (cR _ hD.1).mono ?_
   rintro e w1 ⟨rfl, b1⟩
   have D1 := Lib.hid (hD.more b1)
   go_wp2_with fail
   rw [← HCS.out]
   refine (cI _).mono ?_
   rintro e w2 ⟨rfl, b2⟩
   have D2 := Lib.hid (DatR.more D1.out b2)
   go_wp2_with fail
   refine (cR _ (DatR.cur D2.out)).mono ?_
   rintro e w3 ⟨rfl, b3⟩
   have D3 := Lib.hid (DatR.more D2.out b3)
   clear b1 b2 b3
   go_wp2_with fail
   refine (cR _ (DatR.cur D3.out)).mono ?_
   rintro e w4 ⟨rfl, b4⟩
   have D4 := Lib.hid (DatR.more D3.out b4)
   have t4 := (hT.keep (DatR.keep D4.out)).tabs
   go_wp2_with fail
   refine (cF _ t4).mono ?_
   rintro e w5 ⟨rfl, b5⟩
   have D5 := Lib.hid (DatR.more D4.out b5)
   have z5 := (DatR.keep D5.out).size
   go_wp2_with fail
   refine (cW _ (DatR.bld D5.out) z5).mono ?_
   rintro e w6 ⟨rfl, B6, b6⟩
   have D6 := Lib.hid (DatR.low D5.out b6 B6 hpw)
   have D7 := Lib.hid (DatR.set D6.out hpw ((i : Int) + (n : Int)))
   have q1 := Cur.c1 (DatR.cur D6.out)
   have f1 := Cur.f1 (DatR.cur D6.out)
   clear b4 t4 b5 z5 b6 B6
   go_wp2_with fail
   refine (cB _ (DatR.cur D7.out)).mono ?_
   rintro e w8 ⟨rfl, b8⟩
   have D8 := Lib.hid (DatR.more D7.out b8)
   have z8 := (DatR.keep D8.out).size
   clear b8 q1 f1
   go_wp2_with fail
   refine (cT _ (DatR.bld D8.out) z8).mono ?_
   rintro e w9 ⟨rfl, B9, b9⟩
   have D9 := Lib.hid (DatR.low D8.out b9 B9 hpw)
   clear b9 B9
   go_wp2
   exact bodyPost_ret (v := .tuple #[.string (oB (acc ++ A)), .int .i64 0]) (by simp [results, Tryz.results66, go_sem]) rfl ⟨by rw [HR.out], by rw [HR.out]; exact D9.out.1, D9.out.2.1⟩
  ·have hnl : i + n < s.data.toList.length := by rw [List.length_drop] at hn; omega
   have hg : (s.data.toList.drop i)[n]'hn = s.data.toList[i + n]'hnl := List.getElem_drop
   rw [hg] at h3
   have hgd : s.data.toList.getD (i + n) 0 = s.data.toList[i + n]'hnl := by rw [List.getD_eq_getElem?_getD, List.getElem?_eq_getElem hnl]; rfl
   have hbef : ∀ q, i ≤ q → q < i + n → ∀ h : q < s.data.toList.length, (38 :: S).contains s.data.toList[q] = false := by
    intro q hq1 hq2 hq3
    have hq4 : q - i < ((s.data.toList.drop i).take n).length := by rw [List.length_take, List.length_drop]; omega
    have hmem : s.data.toList[q] ∈ (s.data.toList.drop i).take n := List.mem_iff_getElem.2 ⟨q - i, hq4, by rw [List.getElem_take, List.getElem_drop]; simp [show i + (q - i) = q by omega]⟩
    exact h4 _ hmem
   have hno38 : ∀ q, i ≤ q → q < i + n → ∀ h : q < s.data.toList.length, s.data.toList[q] ≠ 38 := by
    intro q hq1 hq2 hq3 he
    have := hbef q hq1 hq2 hq3
    rw [he] at this
    simp at this
   have hrun : stopAt S s.data.toList i = stopAt S s.data.toList (i + n) := stopAt_run S _ n i (by omega) (fun x hx => by have := h4 x hx; rw [List.contains_cons, Bool.or_eq_false_iff] at this; exact this.2)
   rw [h1] at cI
   obtain ⟨m1, m2, m3⟩ := main n _ (by omega) rfl
   have hn0 : (0 : Int) ≤ (n : Int) := by omega
   have hn1 : ¬ (n : Int) < 0 := by omega
   have hnR : n ≤ (oB (s.data.toList.drop i)).size := by rw [hRz]; have := HSL.out; omega
   by_cases h38 : s.data.toList[i + n]'hnl = 38
   ·have hnj : i + n < j := by
     rcases Nat.lt_or_ge (i + n) j with h | h
     ·exact h
     ·exfalso
      have hle := stopAt_le S s.data.toList (i + n) (by omega)
      have he : j = i + n := by omega
      have := hsp2 (by omega)
      simp only [he] at this
      rw [h38, HS38.out] at this
      exact absurd this (by decide)
    obtain ⟨g, hg1, hg2⟩ := data_amp s.data.toList false i (i + n) j f acc (by omega) hnj (by omega) hf hno38 (by rw [hgd]; exact h38)
    obtain ⟨hrt1, hrt2⟩ := refAt_take S s.data.toList HS.out (i + n) j hnj (by omega) hsp2
    rw [hrt1, show i + n - i = n by omega] at hg2
    have hb0 : hasP s.data.toList ((i + n : Nat) : Int) [38] = true := hasP_yes1 (by rw [List.getElem?_eq_getElem hnl, h38])
    have cX : ∀ wx, EscT wx → _ := fun wx h => esc_Reference s ((i + n : Nat) : Int) wx (by omega) h
    rw [refP_at s.data.toList (i + n) hnl (by rw [hgd]; exact h38)] at cX
    have hst : ∀ wx, _ := fun wx => slice_to (oB (s.data.toList.drop i)) (n : Int) (by omega) (by omega) wx
    rw [Int.toNat_natCast, kext, hRl, List.drop_zero, Nat.sub_zero] at hst
    have cF : ∀ wx, TokT wx → _ := fun wx h => tok_lines0 (oB ((s.data.toList.drop i).take n)) wx (by rw [oBz]; have := List.length_take_le n (s.data.toList.drop i); have := HSL.out; omega) h
    rw [oBl] at cF
    obtain ⟨A, hA⟩ : ∃ A, A = spMap false (linesP ((s.data.toList.drop i).take n)) := ⟨_, rfl⟩
    rw [← hA] at cF m1 m2 m3
    first | rw [← hA] at HR | rw [← hA] at hg2
    have hBA : (acc ++ A).length ≤ 4 * i + n := by rw [List.length_append]; omega
    have cW : ∀ wx, Bld w.heap.size w.heap.size acc wx → w.heap.size ≤ wx.heap.size → _ := fun wx h1 h2 => bld_WriteString w.heap.size w.heap.size acc (oB A) wx h1 (by have := HSL.out; omega) h2
    rw [oBl] at cW
    have cB : ∀ wx, Cur wx p s ((i : Int) + (n : Int)) → _ := fun wx h => cur_starts p s ⟨#[38]⟩ (i + n) _ wx (by rw [show ((i + n : Nat) : Int) = (i : Int) + (n : Int) by omega]; exact h) (by have := HSL.out; omega) hb0
    have cT : ∀ wx, Bld w.heap.size w.heap.size (acc ++ A) wx → w.heap.size ≤ wx.heap.size → _ := fun wx h1 h2 => bld_String w.heap.size w.heap.size (acc ++ A) wx h1 h2
    have hn6 : (n : Int) ≤ 1000000 := by have := HSL.out; omega
    generalize oB A = AS at *
    generalize oB ((s.data.toList.drop i).take n) = MS at *
    clear hA
    rcases refAt_cases s.data.toList (i + n) with hr | ⟨r, jj, hr, g1, g2, g3, g4, g5⟩
    ·rw [hr] at cX hg2
     rw [if_neg (by decide)] at hg2
     have HR := Lib.hid (hrel.trans hg2)
     simp only at cX
     rw [show ((i + n : Nat) : Int) = (i : Int) + (n : Int) by omega] at cX HR
     clear hno38 hsp1 hsp2 h1 h3 h4 hmid hRl hRz main hrel hg hg1 hg2 hgd hbef hrun hrt1 hrt2 h38 hr hn
     generalize oB (s.data.toList.drop i) = R at *
     go_wp2_with fail
     refine (cR _ hD.1).mono ?_
     rintro e w1 ⟨rfl, b1⟩
     have D1 := Lib.hid (hD.more b1)
     go_wp2_with fail
     rw [← HCS.out]
     refine (cI _).mono ?_
     rintro e w2 ⟨rfl, b2⟩
     have D3 := Lib.hid (DatR.more D1.out b2)
     obtain ⟨w3, rfl⟩ : ∃ w3, w3 = w2 := ⟨_, rfl⟩
     clear b1 b2
     go_wp2_with fail
     refine (cR _ (DatR.cur D3.out)).mono ?_
     rintro e w4 ⟨rfl, b4⟩
     have D4 := Lib.hid (DatR.more D3.out b4)
     have t4 := (hT.keep (DatR.keep D4.out)).tabs
     go_wp2_with fail
     refine (cF _ t4).mono ?_
     rintro e w5 ⟨rfl, b5⟩
     have D5 := Lib.hid (DatR.more D4.out b5)
     have z5 := (DatR.keep D5.out).size
     go_wp2_with fail
     refine (cW _ (DatR.bld D5.out) z5).mono ?_
     rintro e w6 ⟨rfl, B6, b6⟩
     have D6 := Lib.hid (DatR.low D5.out b6 B6 hpw)
     have D7 := Lib.hid (DatR.set D6.out hpw ((i : Int) + (n : Int)))
     have q1 := Cur.c1 (DatR.cur D6.out)
     have f1 := Cur.f1 (DatR.cur D6.out)
     clear b4 t4 b5 z5 b6 B6
     go_wp2_with fail
     refine (cB _ (DatR.cur D7.out)).mono ?_
     rintro e w8 ⟨rfl, b8⟩
     have D8 := Lib.hid (DatR.more D7.out b8)
     have c0 := Cur.c0 (DatR.cur D8.out)
     have c1 := Cur.c1 (DatR.cur D8.out)
     have hp8 := Cur.lt (DatR.cur D8.out)
     have t8 : EscT w8.drew := EscT_below (hT.keep (DatR.keep D8.out)).tabs.2.1 (Below.refl _ _).drew
     clear b8 q1 f1
     go_wp2
     go_region_held3 (fun w' => w'.cell? ⟨p, 0, none⟩ = some (.string s) ∧ w'.cell? ⟨p, 1, none⟩ = some (.int .i64 ((i : Int) + (n : Int)))) (first | exact ⟨c0, c1⟩ | exact hS9) (first | (go_at_call 92; refine (cX w8.drew t8).mono ?_; rintro e w9 ⟨rfl, b9⟩; have hS9 : w9.cell? ⟨p, 0, none⟩ = some (.string s) ∧ w9.cell? ⟨p, 1, none⟩ = some (.int .i64 ((i : Int) + (n : Int))) := ⟨(b9.cell (p := ⟨p, 0, none⟩) hp8).trans c0, (b9.cell (p := ⟨p, 1, none⟩) hp8).trans c1⟩))
     have D9 := Lib.hid (DatR.more (DatR.drew D8.out) b9)
     clear hS9 b9 t8 c0 c1 cX
     go_wp2
     exact bodyPost_ret (v := .tuple #[.string ⟨#[]⟩, .int .i64 12]) (by simp [results, Tryz.results66, go_sem]) rfl ⟨by rw [HR.out]; rfl, by rw [HR.out]; exact D9.out.1, D9.out.2.1⟩
    ·rw [hr] at cX hg2 hrt2
     rw [if_pos rfl] at hg2
     have hjj := hrt2 rfl
     rw [Int.toNat_natCast] at hg2
     have HR := Lib.hid (hrel.trans hg2)
     simp only at cX hjj
     have hebl := eb_len r
     have W2 : ∀ wx, Bld w.heap.size w.heap.size (acc ++ A) wx → w.heap.size ≤ wx.heap.size → _ := fun wx h1 h2 => bld_WriteRune w.heap.size w.heap.size (acc ++ A) r (by omega) (by omega) wx h1 (by rw [List.length_append]; omega) h2
     rw [enc_eb r g3] at W2
     have hal3 : (acc ++ A ++ eb r).length ≤ 4 * jj := by rw [List.length_append, List.length_append]; omega
     have hjjl : jj ≤ j := by omega
     have hfg : j - jj < g := by omega
     have hjk : k ≤ jj := by omega
     have hm9 : i < jj ∧ jj ≤ s.size := by have := HSL.out; omega
     rw [show ((i + n : Nat) : Int) = (i : Int) + (n : Int) by omega] at cX
     clear hno38 hsp1 hsp2 h1 h3 h4 hmid hRl hRz main hrel hg hg1 hg2 hgd hbef hrun hrt1 hrt2 h38 hr hn g3 hebl
     generalize oB (s.data.toList.drop i) = R at *
     go_wp2_with fail
     refine (cR _ hD.1).mono ?_
     rintro e w1 ⟨rfl, b1⟩
     have D1 := Lib.hid (hD.more b1)
     go_wp2_with fail
     rw [← HCS.out]
     refine (cI _).mono ?_
     rintro e w2 ⟨rfl, b2⟩
     have D3 := Lib.hid (DatR.more D1.out b2)
     obtain ⟨w3, rfl⟩ : ∃ w3, w3 = w2 := ⟨_, rfl⟩
     clear b1 b2
     go_wp2_with fail
     refine (cR _ (DatR.cur D3.out)).mono ?_
     rintro e w4 ⟨rfl, b4⟩
     have D4 := Lib.hid (DatR.more D3.out b4)
     have t4 := (hT.keep (DatR.keep D4.out)).tabs
     go_wp2_with fail
     refine (cF _ t4).mono ?_
     rintro e w5 ⟨rfl, b5⟩
     have D5 := Lib.hid (DatR.more D4.out b5)
     have z5 := (DatR.keep D5.out).size
     go_wp2_with fail
     refine (cW _ (DatR.bld D5.out) z5).mono ?_
     rintro e w6 ⟨rfl, B6, b6⟩
     have D6 := Lib.hid (DatR.low D5.out b6 B6 hpw)
     have D7 := Lib.hid (DatR.set D6.out hpw ((i : Int) + (n : Int)))
     have q1 := Cur.c1 (DatR.cur D6.out)
     have f1 := Cur.f1 (DatR.cur D6.out)
     clear b4 t4 b5 z5 b6 B6
     go_wp2_with fail
     refine (cB _ (DatR.cur D7.out)).mono ?_
     rintro e w8 ⟨rfl, b8⟩
     have D8 := Lib.hid (DatR.more D7.out b8)
     generalize acc ++ A ++ eb r = E3 at *
     generalize (Lib.runeCells r).length = RL at *
     have c0 := Cur.c0 (DatR.cur D8.out)
     have c1 := Cur.c1 (DatR.cur D8.out)
     have hp8 := Cur.lt (DatR.cur D8.out)
     have t8 : EscT w8.drew := EscT_below (hT.keep (DatR.keep D8.out)).tabs.2.1 (Below.refl _ _).drew
     clear b8 q1 f1
     go_wp2
     go_region_held3 (fun w' => w'.cell? ⟨p, 0, none⟩ = some (.string s) ∧ w'.cell? ⟨p, 1, none⟩ = some (.int .i64 ((i : Int) + (n : Int)))) (first | exact ⟨c0, c1⟩ | exact hS9) (first | (go_at_call 92; refine (cX w8.drew t8).mono ?_; rintro e w9 ⟨rfl, b9⟩; have hS9 : w9.cell? ⟨p, 0, none⟩ = some (.string s) ∧ w9.cell? ⟨p, 1, none⟩ = some (.int .i64 ((i : Int) + (n : Int))) := ⟨(b9.cell (p := ⟨p, 0, none⟩) hp8).trans c0, (b9.cell (p := ⟨p, 1, none⟩) hp8).trans c1⟩))
     have D9 := Lib.hid (DatR.more (DatR.drew D8.out) b9)
     clear hS9 b9 t8 c0 c1 cX
     have hz9 : w.heap.size ≤ w9.heap.size := (DatR.keep D9.out).size
     go_wp2_with fail
     refine (W2 _ (DatR.bld D9.out) hz9).mono ?_
     rintro e w10 ⟨rfl, B10, b10⟩
     have D10 := Lib.hid (DatR.low D9.out b10 B10 hpw)
     have D11 := Lib.hid (DatR.set D10.out hpw (jj : Int))
     have q1 := Cur.c1 (DatR.cur D10.out)
     have f1 := Cur.f1 (DatR.cur D10.out)
     clear b10 B10 W2
     go_wp2
     go_roundw
     case rel => exact ⟨jj, g, E3, hjk, hjjl, ⟨HR.out, hfg⟩, hal3, D11.out⟩
     case measure => rw [(DatR.cur D11.out).c1, M1.out]; simp [intOf]; omega
   ·have hinS : S.contains (s.data.toList[i + n]'hnl) = true := by
     rw [List.contains_cons, Bool.or_eq_true] at h3
     rcases h3 with h | h
     ·exact absurd (by simpa using h) h38
     ·exact h
    have hjj : j = i + n := by rw [← hmid, hrun, stopAt_hit S _ _ hnl hinS]
    have hb0 : hasP s.data.toList ((i + n : Nat) : Int) [38] = false := hasP_no [] (c := s.data.toList[i + n]'hnl) (by rw [List.getElem?_eq_getElem hnl]) h38
    have HR := Lib.hid (hrel.trans (data_end s.data.toList false i j f acc hij (by omega) hf (fun q a b => hno38 q a (by omega))))
    have hjn : j - i = n := by omega
    have hjs : (j : Int) = (i : Int) + (n : Int) := by omega
    rw [hjn, hjs] at HR
    have hst : ∀ wx, _ := fun wx => slice_to (oB (s.data.toList.drop i)) (n : Int) (by omega) (by omega) wx
    rw [Int.toNat_natCast, kext, hRl, List.drop_zero, Nat.sub_zero] at hst
    have cF : ∀ wx, TokT wx → _ := fun wx h => tok_lines0 (oB ((s.data.toList.drop i).take n)) wx (by rw [oBz]; have := List.length_take_le n (s.data.toList.drop i); have := HSL.out; omega) h
    rw [oBl] at cF
    obtain ⟨A, hA⟩ : ∃ A, A = spMap false (linesP ((s.data.toList.drop i).take n)) := ⟨_, rfl⟩
    rw [← hA] at cF m1 m2 m3
    first | rw [← hA] at HR | rw [← hA] at hg2
    have hBA : (acc ++ A).length ≤ 4 * i + n := by rw [List.length_append]; omega
    have cW : ∀ wx, Bld w.heap.size w.heap.size acc wx → w.heap.size ≤ wx.heap.size → _ := fun wx h1 h2 => bld_WriteString w.heap.size w.heap.size acc (oB A) wx h1 (by have := HSL.out; omega) h2
    rw [oBl] at cW
    have cB : ∀ wx, Cur wx p s ((i : Int) + (n : Int)) → _ := fun wx h => cur_starts p s ⟨#[38]⟩ (i + n) _ wx (by rw [show ((i + n : Nat) : Int) = (i : Int) + (n : Int) by omega]; exact h) (by have := HSL.out; omega) hb0
    have cT : ∀ wx, Bld w.heap.size w.heap.size (acc ++ A) wx → w.heap.size ≤ wx.heap.size → _ := fun wx h1 h2 => bld_String w.heap.size w.heap.size (acc ++ A) wx h1 h2
    have hn6 : (n : Int) ≤ 1000000 := by have := HSL.out; omega
    generalize oB A = AS at *
    generalize oB ((s.data.toList.drop i).take n) = MS at *
    clear hA
    clear hno38 hsp1 hsp2 h1 h3 h4 hmid hRl hjn hRz main hrel hg hgd hbef hrun h38 hinS hn hjs
    generalize oB (s.data.toList.drop i) = R at *
    go_wp2_with fail
    refine (cR _ hD.1).mono ?_
    rintro e w1 ⟨rfl, b1⟩
    have D1 := Lib.hid (hD.more b1)
    go_wp2_with fail
    rw [← HCS.out]
    refine (cI _).mono ?_
    rintro e w2 ⟨rfl, b2⟩
    have D3 := Lib.hid (DatR.more D1.out b2)
    obtain ⟨w3, rfl⟩ : ∃ w3, w3 = w2 := ⟨_, rfl⟩
    clear b1 b2
    go_wp2_with fail
    refine (cR _ (DatR.cur D3.out)).mono ?_
    rintro e w4 ⟨rfl, b4⟩
    have D4 := Lib.hid (DatR.more D3.out b4)
    have t4 := (hT.keep (DatR.keep D4.out)).tabs
    go_wp2_with fail
    refine (cF _ t4).mono ?_
    rintro e w5 ⟨rfl, b5⟩
    have D5 := Lib.hid (DatR.more D4.out b5)
    have z5 := (DatR.keep D5.out).size
    go_wp2_with fail
    refine (cW _ (DatR.bld D5.out) z5).mono ?_
    rintro e w6 ⟨rfl, B6, b6⟩
    have D6 := Lib.hid (DatR.low D5.out b6 B6 hpw)
    have D7 := Lib.hid (DatR.set D6.out hpw ((i : Int) + (n : Int)))
    have q1 := Cur.c1 (DatR.cur D6.out)
    have f1 := Cur.f1 (DatR.cur D6.out)
    clear b4 t4 b5 z5 b6 B6
    go_wp2_with fail
    refine (cB _ (DatR.cur D7.out)).mono ?_
    rintro e w8 ⟨rfl, b8⟩
    have D8 := Lib.hid (DatR.more D7.out b8)
    have z8 := (DatR.keep D8.out).size
    clear b8 q1 f1
    go_wp2_with fail
    refine (cT _ (DatR.bld D8.out) z8).mono ?_
    rintro e w9 ⟨rfl, B9, b9⟩
    have D9 := Lib.hid (DatR.low D8.out b9 B9 hpw)
    clear b9 B9
    go_wp2
    exact bodyPost_ret (v := .tuple #[.string (oB (acc ++ A)), .int .i64 0]) (by simp [results, Tryz.results66, go_sem]) rfl ⟨by rw [HR.out], by rw [HR.out]; exact D9.out.1, D9.out.2.1⟩
set_option maxHeartbeats 16000000 in
theorem cur_data_true (p : Nat) (s st : ByteArray) (k : Nat) (S : List UInt8) (w : World) (hC : Cur w p s k) (hk : k ≤ s.size) (hs : s.size ≤ 1000000) (hS : Stops S) (hst : st.data.toList = S) (hz1 : 1 ≤ st.size) (hz2 : st.size ≤ 10) (hT : TkT p w) :
  Calls Tryz.prog 66 #[.pointer (some ⟨p, 0, none⟩), .string st, .func (.func 149) #[] #[]] w fun e w' => e = .returned (.tuple #[.string (oB (contP s.data.toList k (stopAt S s.data.toList k) true).1), .int .i64 (contP s.data.toList k (stopAt S s.data.toList k) true).2.2]) ∧ Cur w' p s (contP s.data.toList k (stopAt S s.data.toList k) true).2.1 ∧ Keep p w w' := by
 have hsl : s.data.toList.length = s.size := by simp
 have HSL := Lib.hid hsl
 obtain ⟨j, hj⟩ : ∃ j, stopAt S s.data.toList k = j := ⟨_, rfl⟩
 have hjl := stopAt_le S s.data.toList k (by omega)
 rw [hj] at hjl ⊢
 have HJ := Lib.hid hj
 have hfr := bld_fresh w
 have hpw := hC.lt
 have hS38 : S.contains 38 = false := by
  rw [Bool.eq_false_iff]
  intro hc
  rcases hS 38 (by simpa using hc) with h | h | h <;> exact absurd h (by decide)
 have HS38 := Lib.hid hS38
 have HS := Lib.hid hS
 have hD0 : DatR w (w.alloc (.cells #[.pointer none, .slice none 0 0] 46)) p s k [] := ⟨hC.keep ((Below.refl _ _).alloc (Nat.le_refl _) _), (Keep.refl _ _).alloc _, hfr⟩
 obtain ⟨CS, hCS⟩ : ∃ CS, CS = (⟨#[38]⟩ : ByteArray) ++ st := ⟨_, rfl⟩
 have hCl : CS.data.toList = 38 :: S := by rw [hCS, bapp, hst]; rfl
 have hCz : CS.size = st.size + 1 := by rw [hCS, ByteArray.size_append, show (⟨#[38]⟩ : ByteArray).size = 1 from rfl]; omega
 have hal : ∀ c ∈ CS.data.toList, c.toNat < 128 := by
  intro c hc
  rw [hCl] at hc
  rcases List.mem_cons.1 hc with rfl | hc
  ·decide
  ·rcases hS c hc with rfl | rfl | rfl <;> decide
 have HCS := Lib.hid hCS
 clear hsl hj hfr hC hS38 hS hCS hst
 go_enter Tryz.func66, Tryz.ntmps66
 go_wp2
 go_loopw [] (fun wr => ∃ (i f : Nat) (acc : List UInt8), k ≤ i ∧ i ≤ j ∧ (contP s.data.toList k j true = contF s.data.toList j true f i acc ∧ j - i < f) ∧ acc.length ≤ 4 * i ∧ DatR w wr p s i acc) (fun wr => s.size - (intOf ((wr.cell? ⟨p, 1, none⟩).getD (.bool false))).toNat)
 case atStart => exact ⟨k, j + 1, [], Nat.le_refl _, hjl.1, ⟨rfl, by omega⟩, by simp, hD0⟩
 case round =>
  obtain ⟨i, f, acc, hki, hij, ⟨hrel, hf⟩, hacc, hD⟩ := hrel
  clear hD0
  have M1 := Lib.hid (hD.1.c1)
  have hil : i ≤ s.data.toList.length := by omega
  have hmid : stopAt S s.data.toList i = j := (stopAt_mid S _ k i hki (by rw [HJ.out]; exact hij) (by omega)).trans HJ.out
  obtain ⟨hsp1, hsp2⟩ := stopAt_spec S s.data.toList _ i (Nat.le_refl _)
  rw [hmid] at hsp1 hsp2
  have cR : ∀ wx, Cur wx p s i → _ := fun wx h => cur_rest p s i wx h (by have := HSL.out; omega)
  have hRl : (oB (s.data.toList.drop i)).data.toList = s.data.toList.drop i := oBl _
  have hRz : (oB (s.data.toList.drop i)).size = s.size - i := by rw [oBz, List.length_drop, HSL.out]
  have cI : ∀ wx, _ := fun wx => idx_any (oB (s.data.toList.drop i)) CS wx (by omega) (by omega) (by omega) hal
  rw [hRl, hCl] at cI
  have hi6 : (i : Int) ≤ 1000000 := by have := HSL.out; omega
  have hi0 : (0 : Int) ≤ (i : Int) := by omega
  have main : ∀ (n : Nat) (A : List UInt8), i + n ≤ s.data.toList.length → A = spMap true (linesP ((s.data.toList.drop i).take n)) → ((oB A).size ≤ n ∧ A.length ≤ n ∧ A.length ≤ 1000000) := by
   intro n A hn hA
   have h1 := linesP_len ((s.data.toList.drop i).take n)
   have h2 : ((s.data.toList.drop i).take n).length ≤ n := List.length_take_le _ _
   have h3 := spMap_len true (linesP ((s.data.toList.drop i).take n))
   have h4 : A.length ≤ n := by rw [hA]; first | omega | (rw [h3]; omega)
   exact ⟨by rw [oBz]; exact h4, h4, by have := HSL.out; omega⟩
  rcases ia_cases (38 :: S) (s.data.toList.drop i) with ⟨h1, h2⟩ | ⟨n, h1, hn, h3, h4⟩
  ·have hn0 : ((s.data.toList.drop i).take (s.data.toList.length - i)) = s.data.toList.drop i := List.take_of_length_le (by rw [List.length_drop]; omega)
   have hjj : j = s.data.toList.length := by
    rw [← hmid, stopAt_run S _ (s.data.toList.length - i) i (by omega) (fun x hx => by rw [hn0] at hx; have := h2 x hx; rw [List.contains_cons, Bool.or_eq_false_iff] at this; exact this.2), show i + (s.data.toList.length - i) = s.data.toList.length by omega, stopAt_end _ _ _ (Nat.le_refl _)]
   have hno38 : ∀ q, i ≤ q → q < j → ∀ h : q < s.data.toList.length, s.data.toList[q] ≠ 38 := by
    intro q hq1 hq2 hq3 he
    have hmem : s.data.toList[q] ∈ s.data.toList.drop i := List.mem_drop_iff_getElem.2 ⟨q - i, by omega, by simp [show i + (q - i) = q by omega]⟩
    have := h2 _ hmem
    rw [he] at this
    simp at this
   have HR := Lib.hid (hrel.trans (data_end s.data.toList true i j f acc hij (by omega) hf hno38))
   have hjn : j - i = s.size - i := by have := HSL.out; omega
   rw [hjn] at HR
   rw [h1] at cI
   have hb0 : hasP s.data.toList ((i + (s.size - i) : Nat) : Int) [38] = false := by
    rw [← pre_has, List.drop_eq_nil_of_le (by have := HSL.out; omega)]; rfl
   obtain ⟨n, hnd⟩ : ∃ n, s.size - i = n := ⟨_, rfl⟩
   have hRz2 : ((oB (s.data.toList.drop i)).size : Int) = (n : Int) := by omega
   rw [hnd] at HR hb0
   have hin : i + n = s.size := by have := HSL.out; omega
   obtain ⟨m1, m2, m3⟩ := main n _ (by have := HSL.out; omega) rfl
   have hst : ∀ wx, _ := fun wx => slice_to (oB (s.data.toList.drop i)) (n : Int) (by omega) (by omega) wx
   rw [Int.toNat_natCast, kext, hRl, List.drop_zero, Nat.sub_zero] at hst
   have cF : ∀ wx, TokT wx → _ := fun wx h => tok_spaces (oB ((s.data.toList.drop i).take n)) wx (by rw [oBz]; have := List.length_take_le n (s.data.toList.drop i); have := HSL.out; omega) h
   rw [oBl] at cF
   obtain ⟨A, hA⟩ : ∃ A, A = spMap true (linesP ((s.data.toList.drop i).take n)) := ⟨_, rfl⟩
   rw [← hA] at cF m1 m2 m3
   first | rw [← hA] at HR | rw [← hA] at hg2
   have hBA : (acc ++ A).length ≤ 4 * i + n := by rw [List.length_append]; omega
   have cW : ∀ wx, Bld w.heap.size w.heap.size acc wx → w.heap.size ≤ wx.heap.size → _ := fun wx h1 h2 => bld_WriteString w.heap.size w.heap.size acc (oB A) wx h1 (by have := HSL.out; omega) h2
   rw [oBl] at cW
   have cB : ∀ wx, Cur wx p s ((i : Int) + (n : Int)) → _ := fun wx h => cur_starts p s ⟨#[38]⟩ (i + n) _ wx (by rw [show ((i + n : Nat) : Int) = (i : Int) + (n : Int) by omega]; exact h) (by have := HSL.out; omega) hb0
   have cT : ∀ wx, Bld w.heap.size w.heap.size (acc ++ A) wx → w.heap.size ≤ wx.heap.size → _ := fun wx h1 h2 => bld_String w.heap.size w.heap.size (acc ++ A) wx h1 h2
   have hn6 : (n : Int) ≤ 1000000 := by have := HSL.out; omega
   generalize oB A = AS at *
   generalize oB ((s.data.toList.drop i).take n) = MS at *
   clear hA
   have hjs : (j : Int) = (i : Int) + (n : Int) := by have := HSL.out; omega
   rw [hjs] at HR
   clear hno38 hsp1 hsp2 h1 h2 hn0 hjj hmid hRl hjn hnd hRz main hrel hjs
   generalize oB (s.data.toList.drop i) = R at *
   go_wp2_with fail
   refine (cR _ hD.1).mono ?_
   rintro e w1 ⟨rfl, b1⟩
   have D1 := Lib.hid (hD.more b1)
   go_wp2_with fail
   rw [← HCS.out]
   refine (cI _).mono ?_
   rintro e w2 ⟨rfl, b2⟩
   have D2 := Lib.hid (DatR.more D1.out b2)
   go_wp2_with fail
   refine (cR _ (DatR.cur D2.out)).mono ?_
   rintro e w3 ⟨rfl, b3⟩
   have D3 := Lib.hid (DatR.more D2.out b3)
   clear b1 b2 b3
   go_wp2_with fail
   refine (cR _ (DatR.cur D3.out)).mono ?_
   rintro e w4 ⟨rfl, b4⟩
   have D4 := Lib.hid (DatR.more D3.out b4)
   have t4 := (hT.keep (DatR.keep D4.out)).tabs
   go_wp2_with fail
   refine (cF _ t4).mono ?_
   rintro e w5 ⟨rfl, b5⟩
   have D5 := Lib.hid (DatR.more D4.out b5)
   have z5 := (DatR.keep D5.out).size
   go_wp2_with fail
   refine (cW _ (DatR.bld D5.out) z5).mono ?_
   rintro e w6 ⟨rfl, B6, b6⟩
   have D6 := Lib.hid (DatR.low D5.out b6 B6 hpw)
   have D7 := Lib.hid (DatR.set D6.out hpw ((i : Int) + (n : Int)))
   have q1 := Cur.c1 (DatR.cur D6.out)
   have f1 := Cur.f1 (DatR.cur D6.out)
   clear b4 t4 b5 z5 b6 B6
   go_wp2_with fail
   refine (cB _ (DatR.cur D7.out)).mono ?_
   rintro e w8 ⟨rfl, b8⟩
   have D8 := Lib.hid (DatR.more D7.out b8)
   have z8 := (DatR.keep D8.out).size
   clear b8 q1 f1
   go_wp2_with fail
   refine (cT _ (DatR.bld D8.out) z8).mono ?_
   rintro e w9 ⟨rfl, B9, b9⟩
   have D9 := Lib.hid (DatR.low D8.out b9 B9 hpw)
   clear b9 B9
   go_wp2
   exact bodyPost_ret (v := .tuple #[.string (oB (acc ++ A)), .int .i64 0]) (by simp [results, Tryz.results66, go_sem]) rfl ⟨by rw [HR.out], by rw [HR.out]; exact D9.out.1, D9.out.2.1⟩
  ·have hnl : i + n < s.data.toList.length := by rw [List.length_drop] at hn; omega
   have hg : (s.data.toList.drop i)[n]'hn = s.data.toList[i + n]'hnl := List.getElem_drop
   rw [hg] at h3
   have hgd : s.data.toList.getD (i + n) 0 = s.data.toList[i + n]'hnl := by rw [List.getD_eq_getElem?_getD, List.getElem?_eq_getElem hnl]; rfl
   have hbef : ∀ q, i ≤ q → q < i + n → ∀ h : q < s.data.toList.length, (38 :: S).contains s.data.toList[q] = false := by
    intro q hq1 hq2 hq3
    have hq4 : q - i < ((s.data.toList.drop i).take n).length := by rw [List.length_take, List.length_drop]; omega
    have hmem : s.data.toList[q] ∈ (s.data.toList.drop i).take n := List.mem_iff_getElem.2 ⟨q - i, hq4, by rw [List.getElem_take, List.getElem_drop]; simp [show i + (q - i) = q by omega]⟩
    exact h4 _ hmem
   have hno38 : ∀ q, i ≤ q → q < i + n → ∀ h : q < s.data.toList.length, s.data.toList[q] ≠ 38 := by
    intro q hq1 hq2 hq3 he
    have := hbef q hq1 hq2 hq3
    rw [he] at this
    simp at this
   have hrun : stopAt S s.data.toList i = stopAt S s.data.toList (i + n) := stopAt_run S _ n i (by omega) (fun x hx => by have := h4 x hx; rw [List.contains_cons, Bool.or_eq_false_iff] at this; exact this.2)
   rw [h1] at cI
   obtain ⟨m1, m2, m3⟩ := main n _ (by omega) rfl
   have hn0 : (0 : Int) ≤ (n : Int) := by omega
   have hn1 : ¬ (n : Int) < 0 := by omega
   have hnR : n ≤ (oB (s.data.toList.drop i)).size := by rw [hRz]; have := HSL.out; omega
   by_cases h38 : s.data.toList[i + n]'hnl = 38
   ·have hnj : i + n < j := by
     rcases Nat.lt_or_ge (i + n) j with h | h
     ·exact h
     ·exfalso
      have hle := stopAt_le S s.data.toList (i + n) (by omega)
      have he : j = i + n := by omega
      have := hsp2 (by omega)
      simp only [he] at this
      rw [h38, HS38.out] at this
      exact absurd this (by decide)
    obtain ⟨g, hg1, hg2⟩ := data_amp s.data.toList true i (i + n) j f acc (by omega) hnj (by omega) hf hno38 (by rw [hgd]; exact h38)
    obtain ⟨hrt1, hrt2⟩ := refAt_take S s.data.toList HS.out (i + n) j hnj (by omega) hsp2
    rw [hrt1, show i + n - i = n by omega] at hg2
    have hb0 : hasP s.data.toList ((i + n : Nat) : Int) [38] = true := hasP_yes1 (by rw [List.getElem?_eq_getElem hnl, h38])
    have cX : ∀ wx, EscT wx → _ := fun wx h => esc_Reference s ((i + n : Nat) : Int) wx (by omega) h
    rw [refP_at s.data.toList (i + n) hnl (by rw [hgd]; exact h38)] at cX
    have hst : ∀ wx, _ := fun wx => slice_to (oB (s.data.toList.drop i)) (n : Int) (by omega) (by omega) wx
    rw [Int.toNat_natCast, kext, hRl, List.drop_zero, Nat.sub_zero] at hst
    have cF : ∀ wx, TokT wx → _ := fun wx h => tok_spaces (oB ((s.data.toList.drop i).take n)) wx (by rw [oBz]; have := List.length_take_le n (s.data.toList.drop i); have := HSL.out; omega) h
    rw [oBl] at cF
    obtain ⟨A, hA⟩ : ∃ A, A = spMap true (linesP ((s.data.toList.drop i).take n)) := ⟨_, rfl⟩
    rw [← hA] at cF m1 m2 m3
    first | rw [← hA] at HR | rw [← hA] at hg2
    have hBA : (acc ++ A).length ≤ 4 * i + n := by rw [List.length_append]; omega
    have cW : ∀ wx, Bld w.heap.size w.heap.size acc wx → w.heap.size ≤ wx.heap.size → _ := fun wx h1 h2 => bld_WriteString w.heap.size w.heap.size acc (oB A) wx h1 (by have := HSL.out; omega) h2
    rw [oBl] at cW
    have cB : ∀ wx, Cur wx p s ((i : Int) + (n : Int)) → _ := fun wx h => cur_starts p s ⟨#[38]⟩ (i + n) _ wx (by rw [show ((i + n : Nat) : Int) = (i : Int) + (n : Int) by omega]; exact h) (by have := HSL.out; omega) hb0
    have cT : ∀ wx, Bld w.heap.size w.heap.size (acc ++ A) wx → w.heap.size ≤ wx.heap.size → _ := fun wx h1 h2 => bld_String w.heap.size w.heap.size (acc ++ A) wx h1 h2
    have hn6 : (n : Int) ≤ 1000000 := by have := HSL.out; omega
    generalize oB A = AS at *
    generalize oB ((s.data.toList.drop i).take n) = MS at *
    clear hA
    rcases refAt_cases s.data.toList (i + n) with hr | ⟨r, jj, hr, g1, g2, g3, g4, g5⟩
    ·rw [hr] at cX hg2
     rw [if_neg (by decide)] at hg2
     have HR := Lib.hid (hrel.trans hg2)
     simp only at cX
     rw [show ((i + n : Nat) : Int) = (i : Int) + (n : Int) by omega] at cX HR
     clear hno38 hsp1 hsp2 h1 h3 h4 hmid hRl hRz main hrel hg hg1 hg2 hgd hbef hrun hrt1 hrt2 h38 hr hn
     generalize oB (s.data.toList.drop i) = R at *
     go_wp2_with fail
     refine (cR _ hD.1).mono ?_
     rintro e w1 ⟨rfl, b1⟩
     have D1 := Lib.hid (hD.more b1)
     go_wp2_with fail
     rw [← HCS.out]
     refine (cI _).mono ?_
     rintro e w2 ⟨rfl, b2⟩
     have D3 := Lib.hid (DatR.more D1.out b2)
     obtain ⟨w3, rfl⟩ : ∃ w3, w3 = w2 := ⟨_, rfl⟩
     clear b1 b2
     go_wp2_with fail
     refine (cR _ (DatR.cur D3.out)).mono ?_
     rintro e w4 ⟨rfl, b4⟩
     have D4 := Lib.hid (DatR.more D3.out b4)
     have t4 := (hT.keep (DatR.keep D4.out)).tabs
     go_wp2_with fail
     refine (cF _ t4).mono ?_
     rintro e w5 ⟨rfl, b5⟩
     have D5 := Lib.hid (DatR.more D4.out b5)
     have z5 := (DatR.keep D5.out).size
     go_wp2_with fail
     refine (cW _ (DatR.bld D5.out) z5).mono ?_
     rintro e w6 ⟨rfl, B6, b6⟩
     have D6 := Lib.hid (DatR.low D5.out b6 B6 hpw)
     have D7 := Lib.hid (DatR.set D6.out hpw ((i : Int) + (n : Int)))
     have q1 := Cur.c1 (DatR.cur D6.out)
     have f1 := Cur.f1 (DatR.cur D6.out)
     clear b4 t4 b5 z5 b6 B6
     go_wp2_with fail
     refine (cB _ (DatR.cur D7.out)).mono ?_
     rintro e w8 ⟨rfl, b8⟩
     have D8 := Lib.hid (DatR.more D7.out b8)
     have c0 := Cur.c0 (DatR.cur D8.out)
     have c1 := Cur.c1 (DatR.cur D8.out)
     have hp8 := Cur.lt (DatR.cur D8.out)
     have t8 : EscT w8.drew := EscT_below (hT.keep (DatR.keep D8.out)).tabs.2.1 (Below.refl _ _).drew
     clear b8 q1 f1
     go_wp2
     go_region_held3 (fun w' => w'.cell? ⟨p, 0, none⟩ = some (.string s) ∧ w'.cell? ⟨p, 1, none⟩ = some (.int .i64 ((i : Int) + (n : Int)))) (first | exact ⟨c0, c1⟩ | exact hS9) (first | (go_at_call 92; refine (cX w8.drew t8).mono ?_; rintro e w9 ⟨rfl, b9⟩; have hS9 : w9.cell? ⟨p, 0, none⟩ = some (.string s) ∧ w9.cell? ⟨p, 1, none⟩ = some (.int .i64 ((i : Int) + (n : Int))) := ⟨(b9.cell (p := ⟨p, 0, none⟩) hp8).trans c0, (b9.cell (p := ⟨p, 1, none⟩) hp8).trans c1⟩))
     have D9 := Lib.hid (DatR.more (DatR.drew D8.out) b9)
     clear hS9 b9 t8 c0 c1 cX
     go_wp2
     exact bodyPost_ret (v := .tuple #[.string ⟨#[]⟩, .int .i64 12]) (by simp [results, Tryz.results66, go_sem]) rfl ⟨by rw [HR.out]; rfl, by rw [HR.out]; exact D9.out.1, D9.out.2.1⟩
    ·rw [hr] at cX hg2 hrt2
     rw [if_pos rfl] at hg2
     have hjj := hrt2 rfl
     rw [Int.toNat_natCast] at hg2
     have HR := Lib.hid (hrel.trans hg2)
     simp only at cX hjj
     have hebl := eb_len r
     have W2 : ∀ wx, Bld w.heap.size w.heap.size (acc ++ A) wx → w.heap.size ≤ wx.heap.size → _ := fun wx h1 h2 => bld_WriteRune w.heap.size w.heap.size (acc ++ A) r (by omega) (by omega) wx h1 (by rw [List.length_append]; omega) h2
     rw [enc_eb r g3] at W2
     have hal3 : (acc ++ A ++ eb r).length ≤ 4 * jj := by rw [List.length_append, List.length_append]; omega
     have hjjl : jj ≤ j := by omega
     have hfg : j - jj < g := by omega
     have hjk : k ≤ jj := by omega
     have hm9 : i < jj ∧ jj ≤ s.size := by have := HSL.out; omega
     rw [show ((i + n : Nat) : Int) = (i : Int) + (n : Int) by omega] at cX
     clear hno38 hsp1 hsp2 h1 h3 h4 hmid hRl hRz main hrel hg hg1 hg2 hgd hbef hrun hrt1 hrt2 h38 hr hn g3 hebl
     generalize oB (s.data.toList.drop i) = R at *
     go_wp2_with fail
     refine (cR _ hD.1).mono ?_
     rintro e w1 ⟨rfl, b1⟩
     have D1 := Lib.hid (hD.more b1)
     go_wp2_with fail
     rw [← HCS.out]
     refine (cI _).mono ?_
     rintro e w2 ⟨rfl, b2⟩
     have D3 := Lib.hid (DatR.more D1.out b2)
     obtain ⟨w3, rfl⟩ : ∃ w3, w3 = w2 := ⟨_, rfl⟩
     clear b1 b2
     go_wp2_with fail
     refine (cR _ (DatR.cur D3.out)).mono ?_
     rintro e w4 ⟨rfl, b4⟩
     have D4 := Lib.hid (DatR.more D3.out b4)
     have t4 := (hT.keep (DatR.keep D4.out)).tabs
     go_wp2_with fail
     refine (cF _ t4).mono ?_
     rintro e w5 ⟨rfl, b5⟩
     have D5 := Lib.hid (DatR.more D4.out b5)
     have z5 := (DatR.keep D5.out).size
     go_wp2_with fail
     refine (cW _ (DatR.bld D5.out) z5).mono ?_
     rintro e w6 ⟨rfl, B6, b6⟩
     have D6 := Lib.hid (DatR.low D5.out b6 B6 hpw)
     have D7 := Lib.hid (DatR.set D6.out hpw ((i : Int) + (n : Int)))
     have q1 := Cur.c1 (DatR.cur D6.out)
     have f1 := Cur.f1 (DatR.cur D6.out)
     clear b4 t4 b5 z5 b6 B6
     go_wp2_with fail
     refine (cB _ (DatR.cur D7.out)).mono ?_
     rintro e w8 ⟨rfl, b8⟩
     have D8 := Lib.hid (DatR.more D7.out b8)
     generalize acc ++ A ++ eb r = E3 at *
     generalize (Lib.runeCells r).length = RL at *
     have c0 := Cur.c0 (DatR.cur D8.out)
     have c1 := Cur.c1 (DatR.cur D8.out)
     have hp8 := Cur.lt (DatR.cur D8.out)
     have t8 : EscT w8.drew := EscT_below (hT.keep (DatR.keep D8.out)).tabs.2.1 (Below.refl _ _).drew
     clear b8 q1 f1
     go_wp2
     go_region_held3 (fun w' => w'.cell? ⟨p, 0, none⟩ = some (.string s) ∧ w'.cell? ⟨p, 1, none⟩ = some (.int .i64 ((i : Int) + (n : Int)))) (first | exact ⟨c0, c1⟩ | exact hS9) (first | (go_at_call 92; refine (cX w8.drew t8).mono ?_; rintro e w9 ⟨rfl, b9⟩; have hS9 : w9.cell? ⟨p, 0, none⟩ = some (.string s) ∧ w9.cell? ⟨p, 1, none⟩ = some (.int .i64 ((i : Int) + (n : Int))) := ⟨(b9.cell (p := ⟨p, 0, none⟩) hp8).trans c0, (b9.cell (p := ⟨p, 1, none⟩) hp8).trans c1⟩))
     have D9 := Lib.hid (DatR.more (DatR.drew D8.out) b9)
     clear hS9 b9 t8 c0 c1 cX
     have hz9 : w.heap.size ≤ w9.heap.size := (DatR.keep D9.out).size
     go_wp2_with fail
     refine (W2 _ (DatR.bld D9.out) hz9).mono ?_
     rintro e w10 ⟨rfl, B10, b10⟩
     have D10 := Lib.hid (DatR.low D9.out b10 B10 hpw)
     have D11 := Lib.hid (DatR.set D10.out hpw (jj : Int))
     have q1 := Cur.c1 (DatR.cur D10.out)
     have f1 := Cur.f1 (DatR.cur D10.out)
     clear b10 B10 W2
     go_wp2
     go_roundw
     case rel => exact ⟨jj, g, E3, hjk, hjjl, ⟨HR.out, hfg⟩, hal3, D11.out⟩
     case measure => rw [(DatR.cur D11.out).c1, M1.out]; simp [intOf]; omega
   ·have hinS : S.contains (s.data.toList[i + n]'hnl) = true := by
     rw [List.contains_cons, Bool.or_eq_true] at h3
     rcases h3 with h | h
     ·exact absurd (by simpa using h) h38
     ·exact h
    have hjj : j = i + n := by rw [← hmid, hrun, stopAt_hit S _ _ hnl hinS]
    have hb0 : hasP s.data.toList ((i + n : Nat) : Int) [38] = false := hasP_no [] (c := s.data.toList[i + n]'hnl) (by rw [List.getElem?_eq_getElem hnl]) h38
    have HR := Lib.hid (hrel.trans (data_end s.data.toList true i j f acc hij (by omega) hf (fun q a b => hno38 q a (by omega))))
    have hjn : j - i = n := by omega
    have hjs : (j : Int) = (i : Int) + (n : Int) := by omega
    rw [hjn, hjs] at HR
    have hst : ∀ wx, _ := fun wx => slice_to (oB (s.data.toList.drop i)) (n : Int) (by omega) (by omega) wx
    rw [Int.toNat_natCast, kext, hRl, List.drop_zero, Nat.sub_zero] at hst
    have cF : ∀ wx, TokT wx → _ := fun wx h => tok_spaces (oB ((s.data.toList.drop i).take n)) wx (by rw [oBz]; have := List.length_take_le n (s.data.toList.drop i); have := HSL.out; omega) h
    rw [oBl] at cF
    obtain ⟨A, hA⟩ : ∃ A, A = spMap true (linesP ((s.data.toList.drop i).take n)) := ⟨_, rfl⟩
    rw [← hA] at cF m1 m2 m3
    first | rw [← hA] at HR | rw [← hA] at hg2
    have hBA : (acc ++ A).length ≤ 4 * i + n := by rw [List.length_append]; omega
    have cW : ∀ wx, Bld w.heap.size w.heap.size acc wx → w.heap.size ≤ wx.heap.size → _ := fun wx h1 h2 => bld_WriteString w.heap.size w.heap.size acc (oB A) wx h1 (by have := HSL.out; omega) h2
    rw [oBl] at cW
    have cB : ∀ wx, Cur wx p s ((i : Int) + (n : Int)) → _ := fun wx h => cur_starts p s ⟨#[38]⟩ (i + n) _ wx (by rw [show ((i + n : Nat) : Int) = (i : Int) + (n : Int) by omega]; exact h) (by have := HSL.out; omega) hb0
    have cT : ∀ wx, Bld w.heap.size w.heap.size (acc ++ A) wx → w.heap.size ≤ wx.heap.size → _ := fun wx h1 h2 => bld_String w.heap.size w.heap.size (acc ++ A) wx h1 h2
    have hn6 : (n : Int) ≤ 1000000 := by have := HSL.out; omega
    generalize oB A = AS at *
    generalize oB ((s.data.toList.drop i).take n) = MS at *
    clear hA
    clear hno38 hsp1 hsp2 h1 h3 h4 hmid hRl hjn hRz main hrel hg hgd hbef hrun h38 hinS hn hjs
    generalize oB (s.data.toList.drop i) = R at *
    go_wp2_with fail
    refine (cR _ hD.1).mono ?_
    rintro e w1 ⟨rfl, b1⟩
    have D1 := Lib.hid (hD.more b1)
    go_wp2_with fail
    rw [← HCS.out]
    refine (cI _).mono ?_
    rintro e w2 ⟨rfl, b2⟩
    have D3 := Lib.hid (DatR.more D1.out b2)
    obtain ⟨w3, rfl⟩ : ∃ w3, w3 = w2 := ⟨_, rfl⟩
    clear b1 b2
    go_wp2_with fail
    refine (cR _ (DatR.cur D3.out)).mono ?_
    rintro e w4 ⟨rfl, b4⟩
    have D4 := Lib.hid (DatR.more D3.out b4)
    have t4 := (hT.keep (DatR.keep D4.out)).tabs
    go_wp2_with fail
    refine (cF _ t4).mono ?_
    rintro e w5 ⟨rfl, b5⟩
    have D5 := Lib.hid (DatR.more D4.out b5)
    have z5 := (DatR.keep D5.out).size
    go_wp2_with fail
    refine (cW _ (DatR.bld D5.out) z5).mono ?_
    rintro e w6 ⟨rfl, B6, b6⟩
    have D6 := Lib.hid (DatR.low D5.out b6 B6 hpw)
    have D7 := Lib.hid (DatR.set D6.out hpw ((i : Int) + (n : Int)))
    have q1 := Cur.c1 (DatR.cur D6.out)
    have f1 := Cur.f1 (DatR.cur D6.out)
    clear b4 t4 b5 z5 b6 B6
    go_wp2_with fail
    refine (cB _ (DatR.cur D7.out)).mono ?_
    rintro e w8 ⟨rfl, b8⟩
    have D8 := Lib.hid (DatR.more D7.out b8)
    have z8 := (DatR.keep D8.out).size
    clear b8 q1 f1
    go_wp2_with fail
    refine (cT _ (DatR.bld D8.out) z8).mono ?_
    rintro e w9 ⟨rfl, B9, b9⟩
    have D9 := Lib.hid (DatR.low D8.out b9 B9 hpw)
    clear b9 B9
    go_wp2
    exact bodyPost_ret (v := .tuple #[.string (oB (acc ++ A)), .int .i64 0]) (by simp [results, Tryz.results66, go_sem]) rfl ⟨by rw [HR.out], by rw [HR.out]; exact D9.out.1, D9.out.2.1⟩
end
section
section
open Go.RowKit
def rdrV (p : Nat) (i : Int) : Value := .agg #[.pointer (some ⟨p, 0, none⟩), .int .i64 i]
def rdrC (p : Nat) (i : Int) : Array Value := #[.pointer (some ⟨p, 0, none⟩), .int .i64 i]
def TR (w wx : World) (p : Nat) (s : ByteArray) (i k : Int) : Prop := Cur wx p s k ∧ Keep p w wx ∧ Blk wx w.heap.size (rdrC p i) 123 ∧ p < w.heap.size
theorem TR.cur {w wx : World} {p : Nat} {s : ByteArray} {i k : Int} (h : TR w wx p s i k) : Cur wx p s k := h.1
theorem TR.keep {w wx : World} {p : Nat} {s : ByteArray} {i k : Int} (h : TR w wx p s i k) : Keep p w wx := h.2.1
theorem TR.g0 {w wx : World} {p : Nat} {s : ByteArray} {i k : Int} (h : TR w wx p s i k) : wx.cell? ⟨w.heap.size, 0, none⟩ = some (.pointer (some ⟨p, 0, none⟩)) := (h.2.2.1.cell 0).trans rfl
theorem TR.g1 {w wx : World} {p : Nat} {s : ByteArray} {i k : Int} (h : TR w wx p s i k) : wx.cell? ⟨w.heap.size, 1, none⟩ = some (.int .i64 i) := (h.2.2.1.cell 1).trans rfl
theorem TR.new {w : World} {p : Nat} {s : ByteArray} {k : Int} (h : Cur w p s k) (i : Int) : TR w (w.alloc (.cells #[.pointer (some ⟨p, 0, none⟩), .int .i64 i] 123)) p s i k :=
 ⟨h.keep ((Below.refl _ _).alloc (Nat.le_refl _) _), (Keep.refl _ _).alloc _, Blk.new _ _ _, h.lt⟩
theorem TR.more {w wx wy : World} {p : Nat} {s : ByteArray} {i k : Int} (h : TR w wx p s i k) (b : Below wx.heap.size wx wy) : TR w wy p s i k := ⟨h.1.keep b, h.2.1.more b, h.2.2.1.more b, h.2.2.2⟩
theorem TR.alloc {w wx : World} {p : Nat} {s : ByteArray} {i k : Int} (h : TR w wx p s i k) (o : Obj) : TR w (wx.alloc o) p s i k := h.more ((Below.refl _ _).alloc (Nat.le_refl _) _)
theorem TR.step {w wx wy : World} {p : Nat} {s : ByteArray} {i k k' : Int} (h : TR w wx p s i k) (c : Cur wy p s k') (q : Keep p wx wy) : TR w wy p s i k' := ⟨c, h.2.1.trans q, h.2.2.1.keep q (by have := h.2.2.2; omega), h.2.2.2⟩
theorem TR.set {w wx : World} {p : Nat} {s : ByteArray} {i k : Int} (h : TR w wx p s i k) (k' : Int) : TR w (wx.setCell ⟨p, 1, none⟩ (.int .i64 k')) p s i k' := h.step (h.1.set k') ((Keep.refl _ _).set 1 _)
theorem TR.own {w wx : World} {p : Nat} {s : ByteArray} {i k : Int} (h : TR w wx p s i k) {q : Addr} (hq : w.heap.size < q.block) (u : Value) : TR w (wx.setCell q u) p s i k :=
 ⟨h.1.own (by have := h.2.2.2; omega) u, h.2.1.own (by omega) u, h.2.2.1.own (by omega) u, h.2.2.2⟩
set_option maxHeartbeats 8000000 in
theorem tag_wrong (p : Nat) (s : ByteArray) (i k : Int) (w : World) (hC : Cur w p s k) (hk : k ≤ (s.size : Int)) :
  Calls Tryz.prog 125 #[rdrV p i] w fun e w' => e = .returned (.int .i64 (misP s.size i k).2) ∧ Cur w' p s (misP s.size i k).1 ∧ Keep p w w' := by
 have D0 := Lib.hid (TR.new hC i)
 have cE : ∀ wx, Cur wx p s k → _ := fun wx h => cur_ended p s k wx h
 unfold rdrV
 by_cases h : k = (s.size : Int)
 ·have hm : misP s.size i k = (i, 8) := if_pos (by omega)
  rw [show (k == (s.size : Int)) = true by simpa using h] at cE
  rw [hm]
  clear hm hC
  go_enter Tryz.func125, Tryz.ntmps125
  go_wp2_with fail
  refine (cE _ D0.out.1).mono ?_
  rintro e w1 ⟨rfl, b1⟩
  have D1 := Lib.hid (D0.out.more b1)
  have g0 := D1.out.g0
  have g1 := D1.out.g1
  have q1 := D1.out.1.c1
  have f1 := D1.out.1.f1
  have D2 := Lib.hid (D1.out.set i)
  clear b1
  go_wp2
  go_ret
  exact ⟨rfl, D2.out.1, D2.out.2.1⟩
 ·have hm : misP s.size i k = (k, 7) := if_neg (by omega)
  rw [show (k == (s.size : Int)) = false by simpa using h] at cE
  rw [hm]
  clear hm hC
  go_enter Tryz.func125, Tryz.ntmps125
  go_wp2_with fail
  refine (cE _ D0.out.1).mono ?_
  rintro e w1 ⟨rfl, b1⟩
  have D1 := Lib.hid (D0.out.more b1)
  clear b1
  go_wp2
  go_ret
  exact ⟨rfl, D1.out.1, D1.out.2.1⟩
def expP (s : ByteArray) (i : Int) (k : Nat) (t : List UInt8) : Int × Int := if hasP s.data.toList (k : Int) t then ((k : Int) + (t.length : Int), 0) else misP s.size i k
set_option maxHeartbeats 8000000 in
theorem tag_expect (p : Nat) (s t : ByteArray) (i : Int) (k : Nat) (w : World) (hC : Cur w p s k) (hk : k ≤ s.size) (hs : s.size ≤ 1000000) (ht : t.size ≤ 1000) :
  Calls Tryz.prog 108 #[rdrV p i, .string t] w fun e w' => e = .returned (.int .i64 (expP s i k t.data.toList).2) ∧ Cur w' p s (expP s i k t.data.toList).1 ∧ Keep p w w' := by
 have htl : t.data.toList.length = t.size := by simp
 have D0 := Lib.hid (TR.new hC i)
 have cW : ∀ wx, Cur wx p s k → _ := fun wx h => tag_wrong p s i (k : Int) wx h (by omega)
 unfold rdrV at *
 unfold expP
 rw [htl]
 rcases hb : hasP s.data.toList (k : Int) t.data.toList with _ | _
 ·have cN : ∀ wx, Cur wx p s k → _ := fun wx h => cur_skip_no p s t k wx h hk hb
  rw [if_neg (by decide)]
  clear htl hb hC
  go_enter Tryz.func108, Tryz.ntmps108
  go_wp2_with fail
  refine (cN _ D0.out.1).mono ?_
  rintro e w1 ⟨rfl, b1⟩
  have D1 := Lib.hid (D0.out.more b1)
  have g0 := D1.out.g0
  have g1 := D1.out.g1
  clear b1
  go_wp2_with fail
  refine (cW _ D1.out.1).mono ?_
  rintro e w2 ⟨rfl, c2, k2⟩
  have D2 := Lib.hid (D1.out.step c2 k2)
  clear c2 k2 g0 g1
  go_wp2
  go_ret
  exact ⟨rfl, D2.out.1, D2.out.2.1⟩
 ·have cY : ∀ wx, Cur wx p s k → _ := fun wx h => cur_skip_yes p s t k wx h hk hs (by omega) hb
  rw [if_pos rfl]
  clear htl hb hC cW
  go_enter Tryz.func108, Tryz.ntmps108
  go_wp2_with fail
  refine (cY _ D0.out.1).mono ?_
  rintro e w1 ⟨rfl, c1, k1⟩
  have D1 := Lib.hid (D0.out.step c1 k1)
  clear c1 k1
  go_wp2
  go_ret
  exact ⟨rfl, D1.out.1, D1.out.2.1⟩
theorem empty_no {l : List UInt8} (h : l ≠ []) : (oB l).toList.isEmpty = false ∧ ¬ (oB l).toList = [] := by
 rw [ByteArray.toList_eq, oBl]
 cases l with
 | nil => exact absurd rfl h
 | cons a b => exact ⟨rfl, by simp⟩
set_option maxHeartbeats 8000000 in
theorem tag_name_no (p : Nat) (s : ByteArray) (i : Int) (k : Nat) (w : World) (hC : Cur w p s k) (hk : k ≤ s.size) (hs : s.size ≤ 1000000) (hT : TkT p w) (hn : nmP s k = k) :
  Calls Tryz.prog 106 #[rdrV p i] w fun e w' => e = .returned (.tuple #[.string ⟨#[]⟩, .int .i64 (misP s.size i k).2]) ∧ Cur w' p s (misP s.size i k).1 ∧ Keep p w w' := by
 have D0 := Lib.hid (TR.new hC i)
 have cN : ∀ wx, Cur wx p s k → TkT p wx → _ := fun wx h t => cur_name p s k wx h hk hs t
 have cW : ∀ wx, Cur wx p s k → _ := fun wx h => tag_wrong p s i (k : Int) wx h (by omega)
 rw [hn, Nat.sub_self, List.take_zero, show oB [] = (⟨#[]⟩ : ByteArray) from rfl] at cN
 have t0 := hT.keep D0.out.2.1
 unfold rdrV at *
 clear hn hC
 go_enter Tryz.func106, Tryz.ntmps106
 go_wp2_with fail
 refine (cN _ D0.out.1 t0).mono ?_
 rintro e w1 ⟨rfl, c1, k1⟩
 have D1 := Lib.hid (D0.out.step c1 k1)
 have g0 := D1.out.g0
 have g1 := D1.out.g1
 clear c1 k1 t0
 go_wp2_with fail
 refine (cW _ D1.out.1).mono ?_
 rintro e w2 ⟨rfl, c2, k2⟩
 have D2 := Lib.hid (D1.out.step c2 k2)
 clear c2 k2 g0 g1
 go_wp2
 go_ret2
 exact ⟨rfl, D2.out.1, D2.out.2.1⟩
set_option maxHeartbeats 8000000 in
theorem tag_name_yes (p : Nat) (s : ByteArray) (i : Int) (k : Nat) (w : World) (hC : Cur w p s k) (hk : k ≤ s.size) (hs : s.size ≤ 1000000) (hT : TkT p w) (hn : nmP s k ≠ k) :
  Calls Tryz.prog 106 #[rdrV p i] w fun e w' => e = .returned (.tuple #[.string (oB ((s.data.toList.drop k).take (nmP s k - k))), .int .i64 0]) ∧ Cur w' p s (nmP s k : Nat) ∧ Keep p w w' := by
 have hsl : s.data.toList.length = s.size := by simp
 have hle := nmP_le s k hk
 have D0 := Lib.hid (TR.new hC i)
 have cN : ∀ wx, Cur wx p s k → TkT p wx → _ := fun wx h t => cur_name p s k wx h hk hs t
 have t0 := hT.keep D0.out.2.1
 obtain ⟨e1, e2⟩ := empty_no (l := (s.data.toList.drop k).take (nmP s k - k)) (fun e => by
  have := congrArg List.length e
  rw [List.length_take, List.length_drop, List.length_nil] at this
  omega)
 generalize oB ((s.data.toList.drop k).take (nmP s k - k)) = NM at *
 generalize nmP s k = n at *
 unfold rdrV at *
 clear hn hC hsl hle
 go_enter Tryz.func106, Tryz.ntmps106
 go_wp2_with fail
 refine (cN _ D0.out.1 t0).mono ?_
 rintro e w1 ⟨rfl, c1, k1⟩
 have D1 := Lib.hid (D0.out.step c1 k1)
 clear c1 k1 t0
 go_wp2
 go_ret2
 exact ⟨rfl, D1.out.1, D1.out.2.1⟩
end
section
open Go.RowKit
theorem attr2_no (s : ByteArray) (i : Nat) (N : List UInt8) (k : Nat) (h1 : hasP s.data.toList (k : Int) [34] = false) (h2 : hasP s.data.toList (k : Int) [39] = false) : attr2 s i N k = ((N, []), misP s.size i (k : Int)) := by
 unfold attr2; rw [h1, h2]; rfl
theorem attr2_dq (s : ByteArray) (i : Nat) (N : List UInt8) (k : Nat) (h1 : hasP s.data.toList (k : Int) [34] = true) : attr2 s i N k = attr4 s i N (stopAt [60, 34] s.data.toList (k + 1)) (contP s.data.toList (k + 1) (stopAt [60, 34] s.data.toList (k + 1)) true) := by
 unfold attr2 attr3; rw [if_pos h1, quo_stop]
theorem attr2_sq (s : ByteArray) (i : Nat) (N : List UInt8) (k : Nat) (h1 : hasP s.data.toList (k : Int) [34] = false) (h2 : hasP s.data.toList (k : Int) [39] = true) : attr2 s i N k = attr4 s i N (stopAt [60, 39] s.data.toList (k + 1)) (contP s.data.toList (k + 1) (stopAt [60, 39] s.data.toList (k + 1)) true) := by
 unfold attr2 attr3; rw [h1, if_neg (by decide), if_pos h2, quo_stop]
theorem quo_exp (s : ByteArray) (i : Nat) (N : List UInt8) (k : Nat) (q : UInt8) (hq : q ≠ 60) (hk : k + 1 ≤ s.size) : ∀ V : List UInt8, attr4 s i N (stopAt [60, q] s.data.toList (k + 1)) (V, ((stopAt [60, q] s.data.toList (k + 1) : Nat) : Int), 0) = ((N, if (expP s (i : Int) (stopAt [60, q] s.data.toList (k + 1)) [q]).2 = 0 then V else []), expP s (i : Int) (stopAt [60, q] s.data.toList (k + 1)) [q]) := by
 intro V
 have hsl : s.data.toList.length = s.size := by simp
 have hle := stopAt_le [60, q] s.data.toList (k + 1) (by omega)
 obtain ⟨_, hsp⟩ := stopAt_spec [60, q] s.data.toList _ (k + 1) (Nat.le_refl _)
 generalize stopAt [60, q] s.data.toList (k + 1) = e at *
 unfold expP
 by_cases he : e = s.size
 ·have hno : hasP s.data.toList (e : Int) [q] = false := by rw [← pre_has, List.drop_eq_nil_of_le (by omega)]; rfl
  rw [attr4_eof he, hno, if_neg (show ¬ (false = true) by decide), show misP s.size (i : Int) (e : Int) = ((i : Int), 8) from if_pos (by omega)]
  simp
 ·have hel : e < s.data.toList.length := by omega
  obtain ⟨y, hy⟩ : ∃ y, s.data.toList[e]'hel = y := ⟨_, rfl⟩
  have hyo : s.data.toList[e]? = some y := by rw [List.getElem?_eq_getElem hel, hy]
  have hin := hsp hel
  rw [hy] at hin
  by_cases h60 : y = 60
  ·subst h60
   have hno : hasP s.data.toList (e : Int) [q] = false := hasP_no [] hyo (fun e => hq e.symm)
   rw [attr4_lt (by omega) hel hy, hno, if_neg (show ¬ (false = true) by decide), show misP s.size (i : Int) (e : Int) = ((e : Int), 7) from if_neg (by omega)]
   simp
  ·have hyq : y = q := by
    simp at hin
    rcases hin with h | h
    ·exact absurd h h60
    ·exact h
   subst hyq
   have hyes : hasP s.data.toList (e : Int) [y] = true := hasP_yes1 hyo
   rw [attr4_ok (by omega) hel hy h60, hyes, if_pos rfl]
   simp
theorem two_quotes {l : List UInt8} {k : Nat} (h : hasP l (k : Int) [34] = true) : hasP l (k : Int) [39] = false := by
 obtain ⟨hm, he⟩ := hasP_one l k 34 h
 exact hasP_no [] (c := 34) (by rw [List.getElem?_eq_getElem hm, he]) (by decide)
set_option maxHeartbeats 16000000 in
theorem tag_value (p : Nat) (s : ByteArray) (i k : Nat) (N : List UInt8) (w : World) (hC : Cur w p s k) (hk : k ≤ s.size) (hs : s.size ≤ 1000000) (hT : TkT p w) :
  Calls Tryz.prog 142 #[rdrV p i] w fun e w' => (∃ V, e = .returned (.tuple #[.string V, .int .i64 (attr2 s i N k).2.2]) ∧ ((attr2 s i N k).2.2 = 0 → V = oB (attr2 s i N k).1.2)) ∧ Cur w' p s (attr2 s i N k).2.1 ∧ Keep p w w' := by
 have hsl : s.data.toList.length = s.size := by simp
 have D0 := Lib.hid (TR.new hC i)
 have cS : ∀ wx, Cur wx p s k → _ := fun wx h => cur_starts p s ⟨#[39]⟩ k _ wx h hk rfl
 rw [show (⟨#[39]⟩ : ByteArray).data.toList = [39] from rfl] at cS
 rcases hq : hasP s.data.toList (k : Int) [34] with _ | _
 ·rcases hr : hasP s.data.toList (k : Int) [39] with _ | _
  ·have hav := attr2_no s i N k hq hr
   rw [hav]
   rw [hr] at cS
   have cX : ∀ wx, Cur wx p s k → _ := fun wx h => tag_expect p s ⟨#[34]⟩ i k wx h hk hs (by decide)
   rw [show (⟨#[34]⟩ : ByteArray).data.toList = [34] from rfl, show expP s i k [34] = misP s.size i k by unfold expP; rw [hq]; rfl] at cX
   have hmn := misP_ne s.size i (k : Int)
   generalize misP s.size i (k : Int) = mp at *
   obtain ⟨y1, y2⟩ := mp
   simp only at cX hmn ⊢
   have herb : (y2 != 0) = true := by simpa using hmn
   unfold rdrV at *
   clear hq hr hav hC hsl
   go_enter Tryz.func142, Tryz.ntmps142
   go_wp2_with fail
   refine (cS _ D0.out.1).mono ?_
   rintro e' w1 ⟨rfl, b1⟩
   have D1 := Lib.hid (D0.out.more b1)
   have g0 := D1.out.g0
   have g1 := D1.out.g1
   clear b1
   go_wp2_with fail
   refine (cX _ D1.out.1).mono ?_
   rintro e' w2 ⟨rfl, c2, k2⟩
   have D2 := Lib.hid (D1.out.step c2 k2)
   clear c2 k2 g0 g1
   go_wp2
   exact bodyPost_ret (v := .tuple #[.string ⟨#[]⟩, .int .i64 y2]) (by simp [results, Tryz.results142, go_sem]) rfl ⟨⟨_, rfl, fun h => absurd h hmn⟩, D2.out.1, D2.out.2.1⟩
  ·have hav := attr2_sq s i N k hq hr
   rw [hr] at cS
   replace hq := hr
   unfold rdrV at *
   have hk1 : k + 1 ≤ s.size := by
    have := hasP_len hq (by simp)
    simp only [List.length_cons, List.length_nil] at this
    omega
   have hx0 : expP s i k [39] = ((k : Int) + 1, 0) := if_pos hq
   have cX : ∀ wx, Cur wx p s k → _ := fun wx h => tag_expect p s ⟨#[39]⟩ i k wx h hk hs (by decide)
   rw [show (⟨#[39]⟩ : ByteArray).data.toList = [39] from rfl, hx0] at cX
   simp only at cX
   have cD : ∀ wx, Cur wx p s ((k : Int) + 1) → TkT p wx → _ := fun wx h t => cur_data_true p s ⟨#[60, 39]⟩ (k + 1) [60, 39] wx (by rw [show ((k + 1 : Nat) : Int) = (k : Int) + 1 by omega]; exact h) hk1 hs (by intro c hc; simp at hc; rcases hc with rfl | rfl <;> simp) rfl (by decide) (by decide) t
   have hok := contP_ok s.data.toList (k + 1) (stopAt [60, 39] s.data.toList (k + 1)) true
   have hle := stopAt_le [60, 39] s.data.toList (k + 1) (by omega)
   have hqe := quo_exp s i N k 39 (by decide) hk1
   rw [hav]
   have cY : ∀ wx, Cur wx p s ((stopAt [60, 39] s.data.toList (k + 1) : Nat) : Int) → _ := fun wx h => tag_expect p s ⟨#[39]⟩ i (stopAt [60, 39] s.data.toList (k + 1)) wx h (by omega) hs (by decide)
   rw [show (⟨#[39]⟩ : ByteArray).data.toList = [39] from rfl] at cY
   generalize stopAt [60, 39] s.data.toList (k + 1) = e at *
   generalize contP s.data.toList (k + 1) e true = cp at *
   obtain ⟨V, x, er⟩ := cp
   simp only at cD hok
   by_cases her : er = 0
   ·subst her
    have hxe := hok rfl
    subst hxe
    rw [hqe V]
    generalize expP s (i : Int) e [39] = ep at *
    obtain ⟨y1, y2⟩ := ep
    simp only at cY ⊢
    obtain ⟨V2, hV2⟩ : ∃ V2, (if y2 = 0 then V else []) = V2 := ⟨_, rfl⟩
    rw [hV2]
    have HV := Lib.hid (show y2 = 0 → V = V2 from fun h => by rw [← hV2, if_pos h])
    have t0 := hT.keep D0.out.2.1
    clear hV2 hok hle hqe hx0 hq hav hC
    go_enter Tryz.func142, Tryz.ntmps142
    go_wp2_with fail
    refine (cS _ D0.out.1).mono ?_
    rintro e' w1 ⟨rfl, b1⟩
    have D1 := Lib.hid (D0.out.more b1)
    have g0 := D1.out.g0
    have g1 := D1.out.g1
    clear b1
    go_wp2_with fail
    refine (cX _ D1.out.1).mono ?_
    rintro e' w2 ⟨rfl, c2, k2⟩
    have D2 := Lib.hid (D1.out.step c2 k2)
    have g0 := D2.out.g0
    have g1 := D2.out.g1
    have t2 := hT.keep D2.out.2.1
    clear c2 k2
    go_wp2_with fail
    refine (cD _ D2.out.1 t2).mono ?_
    rintro e' w3 ⟨rfl, c3, k3⟩
    have D3 := Lib.hid (D2.out.step c3 k3)
    clear g0 g1 t2
    have g0 := D3.out.g0
    have g1 := D3.out.g1
    clear c3 k3
    go_wp2_with fail
    refine (cY _ D3.out.1).mono ?_
    rintro e' w4 ⟨rfl, c4, k4⟩
    have D4 := Lib.hid (D3.out.step c4 k4)
    clear c4 k4 g0 g1
    go_wp2
    exact bodyPost_ret (v := .tuple #[.string (oB V), .int .i64 y2]) (by simp [results, Tryz.results142, go_sem]) rfl ⟨⟨_, rfl, fun h => by rw [HV.out h]⟩, D4.out.1, D4.out.2.1⟩
   ·have ha4 : attr4 s i N e (V, x, er) = ((N, []), x, er) := attr4_err her
    rw [ha4]
    have herb : (er != 0) = true := by simpa using her
    have t0 := hT.keep D0.out.2.1
    clear hok hle hqe hx0 hq hav cY hC ha4
    simp only
    go_enter Tryz.func142, Tryz.ntmps142
    go_wp2_with fail
    refine (cS _ D0.out.1).mono ?_
    rintro e' w1 ⟨rfl, b1⟩
    have D1 := Lib.hid (D0.out.more b1)
    have g0 := D1.out.g0
    have g1 := D1.out.g1
    clear b1
    go_wp2_with fail
    refine (cX _ D1.out.1).mono ?_
    rintro e' w2 ⟨rfl, c2, k2⟩
    have D2 := Lib.hid (D1.out.step c2 k2)
    have g0 := D2.out.g0
    have g1 := D2.out.g1
    have t2 := hT.keep D2.out.2.1
    clear c2 k2
    go_wp2_with fail
    refine (cD _ D2.out.1 t2).mono ?_
    rintro e' w3 ⟨rfl, c3, k3⟩
    have D3 := Lib.hid (D2.out.step c3 k3)
    clear g0 g1 t2 c3 k3
    go_wp2
    exact bodyPost_ret (v := .tuple #[.string ⟨#[]⟩, .int .i64 er]) (by simp [results, Tryz.results142, go_sem]) rfl ⟨⟨_, rfl, fun h => absurd h her⟩, D3.out.1, D3.out.2.1⟩
 ·have hav := attr2_dq s i N k hq
  have hr := two_quotes hq
  rw [hr] at cS
  unfold rdrV at *
  have hk1 : k + 1 ≤ s.size := by
   have := hasP_len hq (by simp)
   simp only [List.length_cons, List.length_nil] at this
   omega
  have hx0 : expP s i k [34] = ((k : Int) + 1, 0) := if_pos hq
  have cX : ∀ wx, Cur wx p s k → _ := fun wx h => tag_expect p s ⟨#[34]⟩ i k wx h hk hs (by decide)
  rw [show (⟨#[34]⟩ : ByteArray).data.toList = [34] from rfl, hx0] at cX
  simp only at cX
  have cD : ∀ wx, Cur wx p s ((k : Int) + 1) → TkT p wx → _ := fun wx h t => cur_data_true p s ⟨#[60, 34]⟩ (k + 1) [60, 34] wx (by rw [show ((k + 1 : Nat) : Int) = (k : Int) + 1 by omega]; exact h) hk1 hs (by intro c hc; simp at hc; rcases hc with rfl | rfl <;> simp) rfl (by decide) (by decide) t
  have hok := contP_ok s.data.toList (k + 1) (stopAt [60, 34] s.data.toList (k + 1)) true
  have hle := stopAt_le [60, 34] s.data.toList (k + 1) (by omega)
  have hqe := quo_exp s i N k 34 (by decide) hk1
  rw [hav]
  have cY : ∀ wx, Cur wx p s ((stopAt [60, 34] s.data.toList (k + 1) : Nat) : Int) → _ := fun wx h => tag_expect p s ⟨#[34]⟩ i (stopAt [60, 34] s.data.toList (k + 1)) wx h (by omega) hs (by decide)
  rw [show (⟨#[34]⟩ : ByteArray).data.toList = [34] from rfl] at cY
  generalize stopAt [60, 34] s.data.toList (k + 1) = e at *
  generalize contP s.data.toList (k + 1) e true = cp at *
  obtain ⟨V, x, er⟩ := cp
  simp only at cD hok
  by_cases her : er = 0
  ·subst her
   have hxe := hok rfl
   subst hxe
   rw [hqe V]
   generalize expP s (i : Int) e [34] = ep at *
   obtain ⟨y1, y2⟩ := ep
   simp only at cY ⊢
   obtain ⟨V2, hV2⟩ : ∃ V2, (if y2 = 0 then V else []) = V2 := ⟨_, rfl⟩
   rw [hV2]
   have HV := Lib.hid (show y2 = 0 → V = V2 from fun h => by rw [← hV2, if_pos h])
   have t0 := hT.keep D0.out.2.1
   clear hV2 hok hle hqe hx0 hq hav hC
   go_enter Tryz.func142, Tryz.ntmps142
   go_wp2_with fail
   refine (cS _ D0.out.1).mono ?_
   rintro e' w1 ⟨rfl, b1⟩
   have D1 := Lib.hid (D0.out.more b1)
   have g0 := D1.out.g0
   have g1 := D1.out.g1
   clear b1
   go_wp2_with fail
   refine (cX _ D1.out.1).mono ?_
   rintro e' w2 ⟨rfl, c2, k2⟩
   have D2 := Lib.hid (D1.out.step c2 k2)
   have g0 := D2.out.g0
   have g1 := D2.out.g1
   have t2 := hT.keep D2.out.2.1
   clear c2 k2
   go_wp2_with fail
   refine (cD _ D2.out.1 t2).mono ?_
   rintro e' w3 ⟨rfl, c3, k3⟩
   have D3 := Lib.hid (D2.out.step c3 k3)
   clear g0 g1 t2
   have g0 := D3.out.g0
   have g1 := D3.out.g1
   clear c3 k3
   go_wp2_with fail
   refine (cY _ D3.out.1).mono ?_
   rintro e' w4 ⟨rfl, c4, k4⟩
   have D4 := Lib.hid (D3.out.step c4 k4)
   clear c4 k4 g0 g1
   go_wp2
   exact bodyPost_ret (v := .tuple #[.string (oB V), .int .i64 y2]) (by simp [results, Tryz.results142, go_sem]) rfl ⟨⟨_, rfl, fun h => by rw [HV.out h]⟩, D4.out.1, D4.out.2.1⟩
  ·have ha4 : attr4 s i N e (V, x, er) = ((N, []), x, er) := attr4_err her
   rw [ha4]
   have herb : (er != 0) = true := by simpa using her
   have t0 := hT.keep D0.out.2.1
   clear hok hle hqe hx0 hq hav cY hC ha4
   simp only
   go_enter Tryz.func142, Tryz.ntmps142
   go_wp2_with fail
   refine (cS _ D0.out.1).mono ?_
   rintro e' w1 ⟨rfl, b1⟩
   have D1 := Lib.hid (D0.out.more b1)
   have g0 := D1.out.g0
   have g1 := D1.out.g1
   clear b1
   go_wp2_with fail
   refine (cX _ D1.out.1).mono ?_
   rintro e' w2 ⟨rfl, c2, k2⟩
   have D2 := Lib.hid (D1.out.step c2 k2)
   have g0 := D2.out.g0
   have g1 := D2.out.g1
   have t2 := hT.keep D2.out.2.1
   clear c2 k2
   go_wp2_with fail
   refine (cD _ D2.out.1 t2).mono ?_
   rintro e' w3 ⟨rfl, c3, k3⟩
   have D3 := Lib.hid (D2.out.step c3 k3)
   clear g0 g1 t2 c3 k3
   go_wp2
   exact bodyPost_ret (v := .tuple #[.string ⟨#[]⟩, .int .i64 er]) (by simp [results, Tryz.results142, go_sem]) rfl ⟨⟨_, rfl, fun h => absurd h her⟩, D3.out.1, D3.out.2.1⟩
end
section
open Go.RowKit
def AT (cs : Array Value) (T : TypeId) (w wx : World) (p : Nat) (s : ByteArray) (i k : Int) : Prop := TR w wx p s i k ∧ Blk wx (w.heap.size + 1) cs T
theorem AT.new {w : World} {p : Nat} {s : ByteArray} {k : Int} (h : Cur w p s k) (i : Int) (cs : Array Value) (T : TypeId) : AT cs T w ((w.alloc (.cells #[.pointer (some ⟨p, 0, none⟩), .int .i64 i] 123)).alloc (.cells cs T)) p s i k := by
 refine ⟨(TR.new h i).alloc _, ?_⟩
 have := Blk.new (w.alloc (.cells #[.pointer (some ⟨p, 0, none⟩), .int .i64 i] 123)) cs T
 rw [show (w.alloc (.cells #[.pointer (some ⟨p, 0, none⟩), .int .i64 i] 123)).heap.size = w.heap.size + 1 by simp] at this
 exact this
theorem AT.more {cs : Array Value} {T : TypeId} {w wx wy : World} {p : Nat} {s : ByteArray} {i k : Int} (h : AT cs T w wx p s i k) (b : Below wx.heap.size wx wy) : AT cs T w wy p s i k := ⟨h.1.more b, h.2.more b⟩
theorem AT.step {cs : Array Value} {T : TypeId} {w wx wy : World} {p : Nat} {s : ByteArray} {i k k' : Int} (h : AT cs T w wx p s i k) (c : Cur wy p s k') (q : Keep p wx wy) : AT cs T w wy p s i k' := ⟨h.1.step c q, h.2.keep q (by have := h.1.2.2.2; omega)⟩
def attrZ : Array Value := #[.string ⟨#[]⟩, .string ⟨#[]⟩, .string ⟨#[]⟩, .int .i64 0]
theorem AT.cells {w wx : World} {p : Nat} {s : ByteArray} {i k : Int} {T : TypeId} (h : AT attrZ T w wx p s i k) : (wx.cell? ⟨w.heap.size + 1, 0, none⟩ = some (.string ⟨#[]⟩) ∧ wx.cell? ⟨w.heap.size + 1, 1, none⟩ = some (.string ⟨#[]⟩) ∧ wx.cell? ⟨w.heap.size + 1, 2, none⟩ = some (.string ⟨#[]⟩) ∧ wx.cell? ⟨w.heap.size + 1, 3, none⟩ = some (.int .i64 0)) ∧ (wx.frozen? ⟨w.heap.size + 1, 0, none⟩ = false ∧ wx.frozen? ⟨w.heap.size + 1, 1, none⟩ = false ∧ wx.frozen? ⟨w.heap.size + 1, 2, none⟩ = false ∧ wx.frozen? ⟨w.heap.size + 1, 3, none⟩ = false) :=
 ⟨⟨(h.2.cell 0).trans rfl, (h.2.cell 1).trans rfl, (h.2.cell 2).trans rfl, (h.2.cell 3).trans rfl⟩, h.2.fr 0, h.2.fr 1, h.2.fr 2, h.2.fr 3⟩
theorem TR.four {w wx : World} {p : Nat} {s : ByteArray} {i k : Int} (h : TR w wx p s i k) (u0 u1 u2 u3 : Value) : TR w ((((wx.setCell ⟨w.heap.size + 1, 0, none⟩ u0).setCell ⟨w.heap.size + 1, 1, none⟩ u1).setCell ⟨w.heap.size + 1, 2, none⟩ u2).setCell ⟨w.heap.size + 1, 3, none⟩ u3) p s i k :=
 (((h.own (q := ⟨w.heap.size + 1, 0, none⟩) (Nat.lt_succ_self _) u0).own (q := ⟨w.heap.size + 1, 1, none⟩) (Nat.lt_succ_self _) u1).own (q := ⟨w.heap.size + 1, 2, none⟩) (Nat.lt_succ_self _) u2).own (q := ⟨w.heap.size + 1, 3, none⟩) (Nat.lt_succ_self _) u3
theorem attr4_name (s : ByteArray) (i : Nat) (N : List UInt8) (e : Nat) (c : List UInt8 × Int × Int) : (attr4 s i N e c).1.1 = N := by
 unfold attr4
 split
 ·rfl
 ·split
  ·rfl
  ·split <;> rfl
theorem attr2_name (s : ByteArray) (i : Nat) (N : List UInt8) (m : Nat) (_h : (attr2 s i N m).2.2 = 0) : (attr2 s i N m).1.1 = N := by
 unfold attr2 attr3
 split
 ·exact attr4_name ..
 ·split
  ·exact attr4_name ..
  ·rfl
set_option maxHeartbeats 16000000 in
theorem tag_attr (p : Nat) (s : ByteArray) (i k : Nat) (w : World) (hC : Cur w p s k) (hk : k ≤ s.size) (hs : s.size ≤ 1000000) (hT : TkT p w) :
  Calls Tryz.prog 126 #[rdrV p i] w fun e w' => (∃ N V a, e = .returned (.tuple #[.agg #[.string ⟨#[]⟩, .string N, .string V, .int .i64 a], .int .i64 (attrP s i k).2.2]) ∧ ((attrP s i k).2.2 = 0 → N = oB (attrP s i k).1.1 ∧ V = oB (attrP s i k).1.2 ∧ a = (k : Int))) ∧ Cur w' p s (attrP s i k).2.1 ∧ Keep p w w' := by
 have hsl : s.data.toList.length = s.size := by simp
 have D0 := Lib.hid (AT.new hC i attrZ 56)
 unfold attrZ at D0
 have t0 := hT.keep D0.out.1.2.1
 have q0 := D0.out.1.1.c1
 have hap := attrP_def s i k
 by_cases hn : nmP s k = k
 ·have cN : ∀ wx, Cur wx p s k → TkT p wx → _ := fun wx h t => tag_name_no p s i k wx h hk hs t hn
  rw [hap, if_pos hn]
  have hmn := misP_ne s.size i (k : Int)
  generalize misP s.size i (k : Int) = mp at *
  obtain ⟨y1, y2⟩ := mp
  simp only at cN hmn ⊢
  have herb : (y2 != 0) = true := by simpa using hmn
  unfold rdrV at *
  clear hap hn hC hsl
  go_enter Tryz.func126, Tryz.ntmps126
  go_wp2_with fail
  refine (cN _ D0.out.1.1 t0).mono ?_
  rintro e w1 ⟨rfl, c1, k1⟩
  have D1 := Lib.hid (D0.out.step c1 k1)
  obtain ⟨⟨r0, r1, r2, r3⟩, f0, f1, f2, f3⟩ := AT.cells D1.out
  clear c1 k1 q0 t0
  go_wp2
  exact bodyPost_ret (v := .tuple #[.agg #[.string ⟨#[]⟩, .string ⟨#[]⟩, .string ⟨#[]⟩, .int .i64 0], .int .i64 y2]) (by simp [results, Tryz.results126, go_sem, cSs, r0, r1, r2, r3]) rfl ⟨⟨_, _, _, rfl, fun h => absurd h hmn⟩, (D1.out.1.four _ _ _ _).1, (D1.out.1.four _ _ _ _).2.1⟩
 ·have cN : ∀ wx, Cur wx p s k → TkT p wx → _ := fun wx h t => tag_name_yes p s i k wx h hk hs t hn
  rw [if_neg hn] at hap
  have hle := nmP_le s k hk
  have cS : ∀ wx, Cur wx p s (nmP s k : Nat) → _ := fun wx h => cur_skipSpace p s (nmP s k) wx h hle.2 hs
  have hsp := spP_le s.data.toList (nmP s k) (by omega)
  have cE : ∀ wx, Cur wx p s (spP s.data.toList (nmP s k) : Nat) → _ := fun wx h => tag_expect p s ⟨#[61]⟩ i (spP s.data.toList (nmP s k)) wx h (by omega) hs (by decide)
  rw [show (⟨#[61]⟩ : ByteArray).data.toList = [61] from rfl] at cE
  unfold attr1 at hap
  generalize spP s.data.toList (nmP s k) = k1 at *
  generalize decide (nmP s k < k1) = bb at *
  generalize (s.data.toList.drop k).take (nmP s k - k) = N at *
  generalize nmP s k = nk at *
  rcases h61 : hasP s.data.toList (k1 : Int) [61] with _ | _
  ·rw [h61, if_neg (by decide)] at hap
   rw [show expP s i k1 [61] = misP s.size i k1 by unfold expP; rw [h61]; rfl] at cE
   rw [hap]
   have hmn := misP_ne s.size i (k1 : Int)
   generalize misP s.size i (k1 : Int) = mp at *
   obtain ⟨y1, y2⟩ := mp
   simp only at cE hmn ⊢
   have herb : (y2 != 0) = true := by simpa using hmn
   generalize oB N = NS at *
   unfold rdrV at *
   clear hap hn hC hsl hle hsp h61
   go_enter Tryz.func126, Tryz.ntmps126
   go_wp2_with fail
   refine (cN _ D0.out.1.1 t0).mono ?_
   rintro e w1 ⟨rfl, c1, k1⟩
   have D1 := Lib.hid (D0.out.step c1 k1)
   have g0 := D1.out.1.g0
   have g1 := D1.out.1.g1
   clear c1 k1 q0 t0
   go_wp2_with fail
   refine (cS _ D1.out.1.1).mono ?_
   rintro e w2 ⟨rfl, c2, k2⟩
   have D2 := Lib.hid (D1.out.step c2 k2)
   clear g0 g1 c2 k2
   have g0 := D2.out.1.g0
   have g1 := D2.out.1.g1
   go_wp2_with fail
   refine (cE _ D2.out.1.1).mono ?_
   rintro e w3 ⟨rfl, c3, k3⟩
   have D3 := Lib.hid (D2.out.step c3 k3)
   clear g0 g1 c3 k3
   obtain ⟨⟨r0, r1, r2, r3⟩, f0, f1, f2, f3⟩ := AT.cells D3.out
   go_wp2
   exact bodyPost_ret (v := .tuple #[.agg #[.string ⟨#[]⟩, .string ⟨#[]⟩, .string ⟨#[]⟩, .int .i64 0], .int .i64 y2]) (by simp [results, Tryz.results126, go_sem, cSs, r0, r1, r2, r3]) rfl ⟨⟨_, _, _, rfl, fun h => absurd h hmn⟩, (D3.out.1.four _ _ _ _).1, (D3.out.1.four _ _ _ _).2.1⟩
  ·rw [h61, if_pos rfl] at hap
   have hk1 : k1 + 1 ≤ s.size := by
    have := hasP_len h61 (by simp)
    simp only [List.length_cons, List.length_nil] at this
    omega
   rw [show expP s i k1 [61] = ((k1 : Int) + 1, 0) by unfold expP; rw [h61]; rfl] at cE
   simp only at cE
   have hsp2 := spP_le s.data.toList (k1 + 1) (by omega)
   have cT : ∀ wx, Cur wx p s ((k1 : Int) + 1) → _ := fun wx h => cur_skipSpace p s (k1 + 1) wx (by rw [show ((k1 + 1 : Nat) : Int) = (k1 : Int) + 1 by omega]; exact h) hk1 hs
   have cV : ∀ wx, Cur wx p s (spP s.data.toList (k1 + 1) : Nat) → TkT p wx → _ := fun wx h t => tag_value p s i (spP s.data.toList (k1 + 1)) N wx h (by omega) hs t
   rw [hap]
   have ha1 : (attr2 s i N (spP s.data.toList (k1 + 1))).2.2 = 0 → (attr2 s i N (spP s.data.toList (k1 + 1))).1.1 = N := attr2_name s i N _
   have HAN := Lib.hid ha1
   clear ha1
   generalize decide (k1 + 1 < spP s.data.toList (k1 + 1)) = bc at *
   generalize attr2 s i N (spP s.data.toList (k1 + 1)) = av at *
   obtain ⟨⟨aN, aV⟩, x, er⟩ := av
   simp only at cV HAN ⊢
   generalize spP s.data.toList (k1 + 1) = k2 at *
   have HNS := Lib.hid (show er = 0 → oB N = oB aN from fun h => by rw [HAN.out h])
   generalize oB N = NS at *
   unfold rdrV at *
   clear hap hn hC hsl hle hsp hsp2 h61 HAN
   go_enter Tryz.func126, Tryz.ntmps126
   go_wp2_with fail
   refine (cN _ D0.out.1.1 t0).mono ?_
   rintro e w1 ⟨rfl, c1, k1'⟩
   have D1 := Lib.hid (D0.out.step c1 k1')
   have g0 := D1.out.1.g0
   have g1 := D1.out.1.g1
   clear c1 k1' q0 t0
   go_wp2_with fail
   refine (cS _ D1.out.1.1).mono ?_
   rintro e w2 ⟨rfl, c2, k2'⟩
   have D2 := Lib.hid (D1.out.step c2 k2')
   clear g0 g1 c2 k2'
   have g0 := D2.out.1.g0
   have g1 := D2.out.1.g1
   go_wp2_with fail
   refine (cE _ D2.out.1.1).mono ?_
   rintro e w3 ⟨rfl, c3, k3⟩
   have D3 := Lib.hid (D2.out.step c3 k3)
   clear g0 g1 c3 k3
   have g0 := D3.out.1.g0
   have g1 := D3.out.1.g1
   go_wp2_with fail
   refine (cT _ D3.out.1.1).mono ?_
   rintro e w4 ⟨rfl, c4, k4⟩
   have D4 := Lib.hid (D3.out.step c4 k4)
   have t4 := hT.keep D4.out.1.2.1
   clear g0 g1 c4 k4
   have g0 := D4.out.1.g0
   have g1 := D4.out.1.g1
   go_wp2_with fail
   refine (cV _ D4.out.1.1 t4).mono ?_
   rintro e w5 ⟨⟨VS, rfl, hvs⟩, c5, k5⟩
   have HVS := Lib.hid hvs
   have D5 := Lib.hid (D4.out.step c5 k5)
   clear g0 g1 c5 k5 t4 hvs
   obtain ⟨⟨r0, r1, r2, r3⟩, f0, f1, f2, f3⟩ := AT.cells D5.out
   go_wp2
   exact bodyPost_ret (v := .tuple #[.agg #[.string ⟨#[]⟩, .string NS, .string VS, .int .i64 k], .int .i64 er]) (by simp [results, Tryz.results126, go_sem, cSs, r0, r1, r2, r3]) rfl ⟨⟨_, _, _, rfl, fun h => ⟨HNS.out h, HVS.out h, rfl⟩⟩, (D5.out.1.four _ _ _ _).1, (D5.out.1.four _ _ _ _).2.1⟩
end
section
open Go.RowKit Go.Maps
def nmD : List AttrD → DataW Unit
 | [] => .map []
 | x :: r => (nmD r).put (.string x.nm.data.toList) (.lit (.bool true))
theorem nmD_map : ∀ l, IsMap (nmD l)
 | [] => isMap_empty
 | _ :: r => (nmD_map r).put _ _
theorem nm_keyLit (t : List UInt8) : WideAt.IsKeyLit (.string t) := trivial
theorem nmD_yes (t : List UInt8) : ∀ l : List AttrD, (∃ x ∈ l, x.nm.data.toList = t) → (nmD l).atKey (.string t) (.lit (.bool false)) = .lit (.bool true)
 | [], h => by obtain ⟨x, hx, _⟩ := h; simp at hx
 | y :: r, h => by
  rw [nmD]
  by_cases hy : y.nm.data.toList = t
  ·rw [hy, atKey_put_same (nmD_map r) (nm_keyLit _)]
  ·rw [atKey_put_other (by simpa using fun e : t = y.nm.data.toList => hy e.symm)]
   refine nmD_yes t r ?_
   obtain ⟨x, hx, he⟩ := h
   rcases List.mem_cons.1 hx with rfl | hx
   ·exact absurd he hy
   ·exact ⟨x, hx, he⟩
theorem nmD_no (t : List UInt8) : ∀ l : List AttrD, (¬ ∃ x ∈ l, x.nm.data.toList = t) → (nmD l).atKey (.string t) (.lit (.bool false)) = .lit (.bool false)
 | [], _ => rfl
 | y :: r, h => by
  rw [nmD, atKey_put_other (by simpa using fun e : t = y.nm.data.toList => h ⟨y, List.mem_cons_self .., e.symm⟩)]
  exact nmD_no t r fun ⟨x, hx, he⟩ => h ⟨x, List.mem_cons_of_mem _ hx, he⟩
theorem slaw : Keyed Tryz.prog 9 := string_keyed Tryz.underlying9
theorem zero_bool (w : World) : (zeroValue 4).run Tryz.prog w = .ok (.bool false) w := by kernel_rfl
theorem plainElem_bool_inv {P : Program} {e : TypeId} (he : P.underlying e = some .bool) {v : Value} {z : DataW Unit × List MemPlace} (h : plainElem P e v = some z) : ∃ b : Bool, v = .bool b ∧ z = (.lit (.bool b), []) := by
 unfold plainElem at h
 rw [he] at h
 cases v <;> simp at h
 exact ⟨_, rfl, h.symm⟩
def NmSet (w : World) (b : Nat) (l : List AttrD) : Prop := w.ownsMap Tryz.prog 9 (plainElem Tryz.prog 4) b l.length (nmD l)
theorem NmSet.same {w w' : World} {b : Nat} {l : List AttrD} (h : NmSet w b l) (hb : w'.heap[b]? = w.heap[b]?) : NmSet w' b l := by
 obtain ⟨es, clock, h1, h2⟩ := h
 exact ⟨es, clock, hb.trans h1, h2⟩
theorem NmSet.lt {w : World} {b : Nat} {l : List AttrD} (h : NmSet w b l) : b < w.heap.size := by
 obtain ⟨es, clock, h1, _⟩ := h
 exact (Array.getElem?_eq_some_iff.1 h1).1
theorem NmSet.look_yes {w : World} {b : Nat} {l : List AttrD} (h : NmSet w b l) (s : ByteArray) (hs : s.size ≤ maxLen) (hd : ∃ x ∈ l, x.nm = s) : (Instr.lookup 135 (.map (some b)) (.string s) false).run Tryz.prog w = .ok (.bool true) w := by
 obtain ⟨v, ps, hrun, hv⟩ := World.ownsMap.lookup h slaw Tryz.underlying135 (zero_bool w) (plainElem_bool Tryz.underlying4 false) (Go.WideMaps.keyOf_string_mk Tryz.underlying9 hs)
 obtain ⟨c, rfl, hz⟩ := plainElem_bool_inv Tryz.underlying4 hv
 simp only [Prod.mk.injEq] at hz
 rw [hrun]
 have h3 := nmD_yes s.data.toList l (by obtain ⟨x, hx, rfl⟩ := hd; exact ⟨x, hx, rfl⟩)
 rw [Lit.bool.inj (DataW.lit.inj (hz.1.symm.trans h3))]
theorem NmSet.look_no {w : World} {b : Nat} {l : List AttrD} (h : NmSet w b l) (s : ByteArray) (hs : s.size ≤ maxLen) (hd : ¬ ∃ x ∈ l, x.nm = s) : (Instr.lookup 135 (.map (some b)) (.string s) false).run Tryz.prog w = .ok (.bool false) w := by
 obtain ⟨v, ps, hrun, hv⟩ := World.ownsMap.lookup h slaw Tryz.underlying135 (zero_bool w) (plainElem_bool Tryz.underlying4 false) (Go.WideMaps.keyOf_string_mk Tryz.underlying9 hs)
 obtain ⟨c, rfl, hz⟩ := plainElem_bool_inv Tryz.underlying4 hv
 simp only [Prod.mk.injEq] at hz
 rw [hrun]
 have h3 := nmD_no s.data.toList l (fun ⟨x, hx, he⟩ => hd ⟨x, hx, kstr_ext he⟩)
 rw [Lit.bool.inj (DataW.lit.inj (hz.1.symm.trans h3))]
def startEnd (s : ByteArray) (i : Nat) (N : List UInt8) (m : Nat) (al : List AttrD) : StartR :=
 if hasP s.data.toList (m : Int) [62] then ⟨N, al, false, (m : Int) + 1, 0⟩
 else if hasP s.data.toList (m : Int) [47, 62] then ⟨N, al, true, (m : Int) + 2, 0⟩
 else if hasP s.data.toList (m : Int) [47] then ⟨N, al, false, (misP s.size i ((m : Int) + 1)).1, (misP s.size i ((m : Int) + 1)).2⟩
 else ⟨N, al, false, (misP s.size i (m : Int)).1, (misP s.size i (m : Int)).2⟩
theorem has_pre {l : List UInt8} {m : Int} {a b : UInt8} (h : hasP l m [a, b] = true) : hasP l m [a] = true := by
 unfold hasP at *
 rw [Bool.and_eq_true] at *
 refine ⟨h.1, ?_⟩
 cases hd : l.drop m.toNat with
 | nil => rw [hd] at h; simp [List.isPrefixOf] at h
 | cons x r =>
  have h2 := h.2
  rw [hd] at h2
  simp [List.isPrefixOf] at h2 ⊢
  exact h2.1
theorem startGo_end (s : ByteArray) (i : Nat) (N : List UInt8) (f a : Nat) (acc : List AttrD) (h : spP s.data.toList a = a ∨ hasP s.data.toList (spP s.data.toList a : Nat) [47] = true ∨ hasP s.data.toList (spP s.data.toList a : Nat) [62] = true) : startGo s i N (f + 1) a acc = startEnd s i N (spP s.data.toList a) acc := by
 rw [startGo]
 unfold startEnd
 by_cases h1 : hasP s.data.toList (spP s.data.toList a : Nat) [62] = true
 ·rw [if_pos h1, if_pos h1]
 ·rw [if_neg h1, if_neg h1]
  by_cases h2 : hasP s.data.toList (spP s.data.toList a : Nat) [47, 62] = true
  ·rw [if_pos h2, if_pos h2]
  ·rw [if_neg h2, if_neg h2]
   by_cases h3 : hasP s.data.toList (spP s.data.toList a : Nat) [47] = true
   ·rw [if_pos h3, if_pos h3]
   ·rw [if_neg h3, if_neg h3]
    rcases h with h | h | h
    ·rw [if_pos h, h]
    ·exact absurd h h3
    ·exact absurd h h1
theorem startGo_att (s : ByteArray) (i : Nat) (N : List UInt8) (f a : Nat) (acc : List AttrD) (h0 : spP s.data.toList a ≠ a) (h1 : hasP s.data.toList (spP s.data.toList a : Nat) [47] = false) (h2 : hasP s.data.toList (spP s.data.toList a : Nat) [62] = false) : startGo s i N (f + 1) a acc =
  if (attrP s i (spP s.data.toList a)).2.2 ≠ 0 then ⟨N, acc, false, (attrP s i (spP s.data.toList a)).2.1, (attrP s i (spP s.data.toList a)).2.2⟩
  else if ∃ x ∈ acc, x.nm = oB (attrP s i (spP s.data.toList a)).1.1 then ⟨N, acc, false, (spP s.data.toList a : Nat), 10⟩
  else startGo s i N f (attrP s i (spP s.data.toList a)).2.1.toNat (acc ++ [attrOf (attrP s i (spP s.data.toList a)).1.1 (attrP s i (spP s.data.toList a)).1.2 (spP s.data.toList a)]) := by
 rw [startGo, if_neg (by rw [h2]; decide), if_neg (fun h => by rw [has_pre h] at h1; cases h1), if_neg (by rw [h1]; decide), if_neg h0]
theorem attrP_nm (s : ByteArray) (i a : Nat) : (attrP s i a).1.1.length ≤ s.data.toList.length := by
 rw [attrP_def]
 split
 ·simp
 ·have h1 : (attr1 s i ((s.data.toList.drop a).take (nmP s a - a)) (spP s.data.toList (nmP s a))).1.1 = (s.data.toList.drop a).take (nmP s a - a) := by
   unfold attr1
   split
   ·unfold attr2 attr3
    split
    ·exact attr4_name ..
    ·split
     ·exact attr4_name ..
     ·rfl
   ·rfl
  rw [h1, List.length_take, List.length_drop]
  omega
theorem TR.grown {w wx wy : World} {p : Nat} {s : ByteArray} {i k : Int} {row : Option Nat} (h : TR w wx p s i k) (hg : wx.grownBy wy row) (hr : ∀ x, row = some x → w.heap.size < x) : TR w wy p s i k := by
 have hp := h.2.2.2
 refine ⟨(hg.block p h.1.lt (fun e => by have := hr p e.symm; omega)).trans h.1, h.2.1.grown hg (fun x hx => Nat.le_of_lt (hr x hx)), ?_, hp⟩
 exact (hg.block w.heap.size h.2.2.1.lt (fun e => by have := hr _ e.symm; omega)).trans h.2.2.1
def AttR (w wx : World) (p : Nat) (s : ByteArray) (i k : Int) (v : Value) (l : List AttrD) : Prop := TR w wx p s i k ∧ wx.ownsRow (w.heap.size + 2) 56 4 v l.length (aCs l) ∧ NmSet wx (w.heap.size + 1) l.reverse
theorem AttR.step {w wx wy : World} {p : Nat} {s : ByteArray} {i k k' : Int} {v : Value} {l : List AttrD} (h : AttR w wx p s i k v l) (c : Cur wy p s k') (q : Keep p wx wy) : AttR w wy p s i k' v l := by
 have hp := h.1.2.2.2
 exact ⟨h.1.step c q, q.row h.2.1 (by omega), h.2.2.same (q.block _ h.2.2.lt (by omega))⟩
theorem AttR.more {w wx wy : World} {p : Nat} {s : ByteArray} {i k : Int} {v : Value} {l : List AttrD} (h : AttR w wx p s i k v l) (b : Below wx.heap.size wx wy) : AttR w wy p s i k v l := h.step (h.1.1.keep b) (Keep.of b)
theorem AttR.alloc {w wx : World} {p : Nat} {s : ByteArray} {i k : Int} {v : Value} {l : List AttrD} (h : AttR w wx p s i k v l) (o : Obj) : AttR w (wx.alloc o) p s i k v l := h.more ((Below.refl _ _).alloc (Nat.le_refl _) _)
theorem AttR.push {w w6 w7 : World} {p : Nat} {s : ByteArray} {i k : Int} {A A' : Option Addr} {c c' : Nat} {l : List AttrD} {x : AttrD} {o : Obj} (T6 : TR w w6 p s i k) (hrow6 : w6.ownsRow (w.heap.size + 2) 56 4 (.slice A l.length c) l.length (aCs l)) (hmap6 : w6.ownsMap Tryz.prog 9 (plainElem Tryz.prog 4) (w.heap.size + 1) (l.reverse.length + 1) ((nmD l.reverse).put (.string x.nm.data.toList) (.lit (.bool true)))) (hgr7 : (w6.alloc o).grownBy w7 (Value.slice A l.length c).ownBlock) (hown7 : w7.ownsRow (w.heap.size + 2) 56 4 (.slice A' (l.length + 1) c') (l.length + 1) (aCs l ++ attrCells x)) : AttR w w7 p s i k (.slice A' (l ++ [x]).length c') (l ++ [x]) := by
 refine ⟨(T6.alloc o).grown hgr7 (fun x hx => by have := (hrow6.lt x hx).1; omega), ?_, ?_⟩
 ·rw [List.length_append, attrsCells_app, show aCs [x] = attrCells x by simp [aCs]]
  exact hown7
 ·rw [List.reverse_append, List.reverse_singleton, List.singleton_append]
  have hm : NmSet w6 (w.heap.size + 1) (x :: l.reverse) := hmap6
  have hl := hm.lt
  refine hm.same ((hgr7.block _ (by rw [World.size_alloc]; omega) (fun e => ?_)).trans (Below.heap_alloc _ _ _ hl))
  have := (hrow6.lt _ e.symm).1
  omega
set_option maxHeartbeats 16000000 in
theorem tag_attributes (p : Nat) (s : ByteArray) (i k : Nat) (w : World) (hC : Cur w p s k) (hk : k ≤ s.size) (hs : s.size ≤ 1000000) (hT : TkT p w) :
  Calls Tryz.prog 109 #[rdrV p i] w fun e w' => ∃ v al x er, e = .returned (.tuple #[v, .int .i64 er]) ∧ w'.ownsRow w.heap.size 56 4 v al.length (aCs al) ∧ Cur w' p s x ∧ Keep p w w' ∧ ((er ≠ 0 ∧ ∀ N, (startGo s i N (s.size + 1) k []).p1 = x ∧ (startGo s i N (s.size + 1) k []).p2 = er) ∨ (er = 0 ∧ ∃ m : Nat, x = (m : Int) ∧ m ≤ s.size ∧ ∀ N, startGo s i N (s.size + 1) k [] = startEnd s i N m al)) := by
 obtain ⟨i0, hi0, hi1, hi3, hi4⟩ := info_parts kinfo_attr
 have hsl : s.data.toList.length = s.size := by simp
 have HSL := Lib.hid hsl
 have hmm := @run_makeMap Tryz.prog
 have hD0 : AttR w ((w.alloc (.cells #[.pointer (some ⟨p, 0, none⟩), .int .i64 i] 123)).alloc (.map #[] 0)) p s i k (.slice none 0 0) [] := by
  refine ⟨(TR.new hC i).alloc _, World.ownsRow_nil _ _ _ _, ?_⟩
  have := World.ownsMap_made (H := Unit) (w.alloc (.cells #[.pointer (some ⟨p, 0, none⟩), .int .i64 i] 123)) Tryz.prog 9 (plainElem Tryz.prog 4)
  rw [show (w.alloc (.cells #[.pointer (some ⟨p, 0, none⟩), .int .i64 i] 123)).heap.size = w.heap.size + 1 by simp] at this
  exact this
 have hpw := hC.lt
 have hmb : (w.alloc (.cells #[.pointer (some ⟨p, 0, none⟩), .int .i64 i] 123)).heap.size = w.heap.size + 1 := by simp
 unfold rdrV
 clear hsl hC
 go_enter Tryz.func109, Tryz.ntmps109
 go_wp2
 go_loopw [4] (fun v wr => ∃ (a f : Nat) (acc : List AttrD) (A : Option Addr) (c : Nat), a ≤ s.size ∧ v = .slice A acc.length c ∧ ((∀ N, startGo s i N (s.size + 1) k [] = startGo s i N f a acc) ∧ s.size - a < f) ∧ acc.length ≤ a ∧ AttR w wr p s i a (.slice A acc.length c) acc) (fun _ wr => s.size - (intOf ((wr.cell? ⟨p, 1, none⟩).getD (.bool false))).toNat)
 case atStart => exact ⟨k, s.size + 1, [], none, 0, hk, rfl, ⟨fun _ => rfl, by omega⟩, by simp, hD0⟩
 case round =>
  clear hD0
  obtain ⟨a, f, acc, A, c, ha, rfl, ⟨hrel, hf⟩, hacc, hD⟩ := hrel
  have M1 := Lib.hid hD.1.1.c1
  obtain ⟨f, rfl⟩ : ∃ g, f = g + 1 := ⟨f - 1, by omega⟩
  have hsp := spP_le s.data.toList a (by have := HSL.out; omega)
  have cS : ∀ wx, Cur wx p s a → _ := fun wx h => cur_skipSpace p s a wx h ha hs
  have c47 : ∀ wx, Cur wx p s (spP s.data.toList a : Nat) → _ := fun wx h => cur_starts p s ⟨#[47]⟩ (spP s.data.toList a) _ wx h (by have := HSL.out; omega) rfl
  rw [show (⟨#[47]⟩ : ByteArray).data.toList = [47] from rfl] at c47
  have c62 : ∀ wx, Cur wx p s (spP s.data.toList a : Nat) → _ := fun wx h => cur_starts p s ⟨#[62]⟩ (spP s.data.toList a) _ wx h (by have := HSL.out; omega) rfl
  rw [show (⟨#[62]⟩ : ByteArray).data.toList = [62] from rfl] at c62
  have hend : (spP s.data.toList a = a ∨ hasP s.data.toList (spP s.data.toList a : Nat) [47] = true ∨ hasP s.data.toList (spP s.data.toList a : Nat) [62] = true) → ∀ N, startGo s i N (s.size + 1) k [] = startEnd s i N (spP s.data.toList a) acc := fun h N => (hrel N).trans (startGo_end s i N f a acc h)
  have g0 := hD.1.g0
  have g1 := hD.1.g1
  have hml : spP s.data.toList a ≤ s.size := by have := HSL.out; omega
  by_cases h0 : spP s.data.toList a = a
  ·have HE := Lib.hid (hend (.inl h0))
   rw [decide_eq_false (show ¬ a < spP s.data.toList a by omega)] at cS
   clear hend hrel c47 c62
   generalize spP s.data.toList a = m at *
   go_wp2_with fail
   refine (cS _ hD.1.1).mono ?_
   rintro e w1 ⟨rfl, q1, k1⟩
   have D1 := Lib.hid (hD.step q1 k1)
   clear q1 k1 g0 g1
   go_wp2
   exact bodyPost_ret (v := .tuple #[.slice A acc.length c, .int .i64 0]) (by simp [results, Tryz.results109, go_sem]) rfl ⟨_, acc, _, 0, rfl, Go.Joins.ownsRow_le D1.out.2.1 (by omega), D1.out.1.1, D1.out.1.2.1, .inr ⟨rfl, m, rfl, hml, HE.out⟩⟩
  ·rw [decide_eq_true (show a < spP s.data.toList a by omega)] at cS
   rcases h47 : hasP s.data.toList (spP s.data.toList a : Nat) [47] with _ | _
   ·rcases h62 : hasP s.data.toList (spP s.data.toList a : Nat) [62] with _ | _
    ·have hgo : ∀ N, startGo s i N (s.size + 1) k [] = _ := fun N => (hrel N).trans (startGo_att s i N f a acc h0 h47 h62)
     rw [h47] at c47
     rw [h62] at c62
     have cA : ∀ wx, Cur wx p s (spP s.data.toList a : Nat) → TkT p wx → _ := fun wx h t => tag_attr p s i (spP s.data.toList a) wx h hml hs t
     have hok := attrP_ok s i (spP s.data.toList a) hml
     have hnm := attrP_nm s i (spP s.data.toList a)
     have ham : a < spP s.data.toList a := by omega
     clear hend hrel h47 h62 h0
     generalize spP s.data.toList a = m at *
     generalize attrP s i m = ap at *
     obtain ⟨⟨aN, aV⟩, x, er⟩ := ap
     simp only at hgo cA hok hnm
     by_cases her : er = 0
     ·subst her
      obtain ⟨z, rfl, hz1, hz2⟩ := hok rfl
      have hNz : (oB aN).size ≤ 1000000 := by rw [oBz]; have := HSL.out; omega
      by_cases hdup : ∃ y ∈ acc, y.nm = oB aN
      ·have HG := Lib.hid (show ∀ N, startGo s i N (s.size + 1) k [] = ⟨N, acc, false, (m : Int), 10⟩ from fun N => by rw [hgo N, if_neg (by decide), if_pos hdup])
       have HL := Lib.hid (show ∃ y ∈ acc.reverse, y.nm = oB aN from (by obtain ⟨y, hy, he⟩ := hdup; exact ⟨y, List.mem_reverse.2 hy, he⟩))
       generalize oB aN = NS at *
       generalize oB aV = VS at *
       clear hgo hok hnm hdup hmm
       go_wp2_with fail
       refine (cS _ hD.1.1).mono ?_
       rintro e w1 ⟨rfl, q1, k1⟩
       have D1 := Lib.hid (hD.step q1 k1)
       clear q1 k1 g0 g1
       have g0 := D1.out.1.g0
       have g1 := D1.out.1.g1
       go_wp2_with fail
       refine (c47 _ D1.out.1.1).mono ?_
       rintro e w2 ⟨rfl, b2⟩
       have D2 := Lib.hid (D1.out.more b2)
       clear b2 g0 g1
       have g0 := D2.out.1.g0
       have g1 := D2.out.1.g1
       go_wp2_with fail
       refine (c62 _ D2.out.1.1).mono ?_
       rintro e w3 ⟨rfl, b3⟩
       have D3 := Lib.hid (D2.out.more b3)
       have t3 := hT.keep D3.out.1.2.1
       clear b3 g0 g1
       have g0 := D3.out.1.g0
       have g1 := D3.out.1.g1
       go_wp2_with fail
       refine (cA _ D3.out.1.1 t3).mono ?_
       rintro e w4 ⟨⟨N4, V4, a4, rfl, h4⟩, q4, k4⟩
       have D4 := Lib.hid (D3.out.step q4 k4)
       have D5 := Lib.hid (D4.out.alloc (.cells #[.string ⟨#[]⟩, .string N4, .string V4, .int .i64 a4] 56))
       clear q4 k4 t3 g0 g1
       have g0 := D5.out.1.g0
       have g1 := D5.out.1.g1
       obtain ⟨rfl, rfl, rfl⟩ := h4 trivial
       clear h4
       have hat := D5.out.2.2.look_yes N4 (by unfold maxLen; omega) HL.out
       have D6 := Lib.hid (TR.set D5.out.1 (m : Int))
       have q5 := D5.out.1.1.c1
       have f5 := D5.out.1.1.f1
       go_wp2
       exact bodyPost_ret (v := .tuple #[.slice none 0 0, .int .i64 10]) (by simp [results, Tryz.results109, go_sem]) rfl ⟨_, [], _, 10, rfl, World.ownsRow_nil _ _ _ _, D6.out.1, D6.out.2.1, .inl ⟨by decide, fun N => by rw [HG.out N]; exact ⟨rfl, rfl⟩⟩⟩
      ·have HG := Lib.hid (show ∀ N, startGo s i N (s.size + 1) k [] = startGo s i N f z (acc ++ [attrOf aN aV m]) from fun N => by rw [hgo N, if_neg (by decide), if_neg hdup, Int.toNat_natCast])
       have HL := Lib.hid (show ¬ ∃ y ∈ acc.reverse, y.nm = oB aN from fun ⟨y, hy, he⟩ => hdup ⟨y, List.mem_reverse.1 hy, he⟩)
       obtain ⟨AD, hAD⟩ : ∃ AD, attrOf aN aV m = AD := ⟨_, rfl⟩
       have hA1 : AD = ⟨⟨#[]⟩, oB aN, oB aV, (m : Int)⟩ := hAD.symm
       rw [hAD] at HG
       clear hAD
       generalize oB aN = NS at *
       generalize oB aV = VS at *
       subst hA1
       clear hgo hok hnm hdup hmm
       go_wp2_with fail
       refine (cS _ hD.1.1).mono ?_
       rintro e w1 ⟨rfl, q1, k1⟩
       have D1 := Lib.hid (hD.step q1 k1)
       clear q1 k1 g0 g1
       have g0 := D1.out.1.g0
       have g1 := D1.out.1.g1
       go_wp2_with fail
       refine (c47 _ D1.out.1.1).mono ?_
       rintro e w2 ⟨rfl, b2⟩
       have D2 := Lib.hid (D1.out.more b2)
       clear b2 g0 g1
       have g0 := D2.out.1.g0
       have g1 := D2.out.1.g1
       go_wp2_with fail
       refine (c62 _ D2.out.1.1).mono ?_
       rintro e w3 ⟨rfl, b3⟩
       have D3 := Lib.hid (D2.out.more b3)
       have t3 := hT.keep D3.out.1.2.1
       clear b3 g0 g1
       have g0 := D3.out.1.g0
       have g1 := D3.out.1.g1
       go_wp2_with fail
       refine (cA _ D3.out.1.1 t3).mono ?_
       rintro e w4 ⟨⟨N4, V4, a4, rfl, h4⟩, q4, k4⟩
       have D4 := Lib.hid (D3.out.step q4 k4)
       have D5 := Lib.hid (D4.out.alloc (.cells #[.string ⟨#[]⟩, .string N4, .string V4, .int .i64 a4] 56))
       clear q4 k4 t3 g0 g1
       have g0 := D5.out.1.g0
       have g1 := D5.out.1.g1
       obtain ⟨rfl, rfl, rfl⟩ := h4 trivial
       clear h4
       have hat := D5.out.2.2.look_no N4 (by unfold maxLen; omega) HL.out
       have hkey := Go.WideMaps.keyOf_string_mk (P := Tryz.prog) Tryz.underlying9 (s := N4) (by unfold maxLen; omega)
       have hmapO := D5.out.2.2
       unfold NmSet at hmapO
       have hmlt := D4.out.2.2.lt
       have r5 : ∀ o v, (#[.string ⟨#[]⟩, .string N4, .string V4, .int .i64 (m : Int)] : Array Value)[o]? = some v → (w4.alloc (.cells #[.string ⟨#[]⟩, .string N4, .string V4, .int .i64 (m : Int)] 56)).cell? ⟨w4.heap.size, o, none⟩ = some v := fun o v hv => by rw [World.cell?_alloc_at _ _ _ _ rfl]; exact hv
       have R5 := Lib.hid r5
       have hal : acc.length ≤ 1000000 := by omega
       clear r5
       go_wp2_with (first | (at_mapUpdate; refine wpList_mapUpdate_own _ rfl _ _ _ 135 rfl 9 4 slaw Tryz.underlying135 (plainElem (H := Unit) Tryz.prog 4) (w.heap.size + 1) acc.reverse.length _ rfl hmapO (by unfold maxLen; rw [List.length_reverse]; omega) _ _ _ rfl rfl hkey _ [] (plainElem_bool Tryz.underlying4 true) ?_; intro w6 hmap6 hgr6; have T6 := Lib.hid (D5.out.1.grown hgr6 (fun x hx => by cases hx; omega)); have hrow6 := D5.out.2.1.kept hgr6 (.inr (fun e => by have := (D5.out.2.1.lt _ e).1; omega)); have s0 := hgr6.cell (R5.out 0 _ rfl) (fun e => by have e2 := Option.some.inj e; simp only at e2; omega); have s1 := hgr6.cell (R5.out 1 _ rfl) (fun e => by have e2 := Option.some.inj e; simp only at e2; omega); have s2 := hgr6.cell (R5.out 2 _ rfl) (fun e => by have e2 := Option.some.inj e; simp only at e2; omega); have s3 := hgr6.cell (R5.out 3 _ rfl) (fun e => by have e2 := Option.some.inj e; simp only at e2; omega); have z6 := hgr6.size; rw [World.size_alloc] at z6) | (at_builtin; refine wpList_append_own _ rfl (.tmp 45) (.tmp 47) 22 rfl (w.heap.size + 2) 56 i0 (.agg #[.string ⟨#[]⟩, .string ⟨#[]⟩, .string ⟨#[]⟩, .int .i64 0]) 4 56 Tryz.underlying22 hi0 hi1 hi3 hi4 rfl (by decide) (.slice A acc.length c) acc.length (aCs acc) rfl (hrow6.alloc _) ⟨w6.heap.size, 0, none⟩ 1 1 (attrCells ⟨⟨#[]⟩, N4, V4, (m : Int)⟩) rfl rfl (attr_new _ _ ⟨⟨#[]⟩, N4, V4, (m : Int)⟩) (attr_one _) (by unfold maxLen; omega) (by omega) (by simp; omega) ?_; intro v' w7 hown7 hgr7 _; obtain ⟨A', c', rfl⟩ := own_form hown7))
       have D7 := AttR.push T6.out hrow6 hmap6 hgr7 hown7
       exact ⟨⟨z, f, acc ++ [⟨⟨#[]⟩, N4, V4, (m : Int)⟩], A', c', hz2, by simp, ⟨HG.out, by omega⟩, by simp; omega, D7⟩, by rw [D7.1.1.c1, M1.out]; simp [intOf]; omega⟩
     ·have HG := Lib.hid (show ∀ N, startGo s i N (s.size + 1) k [] = ⟨N, acc, false, x, er⟩ from fun N => by rw [hgo N, if_pos her])
      have herb : (er != 0) = true := by simpa using her
      generalize oB aN = NS at *
      generalize oB aV = VS at *
      clear hgo hok hnm hmm
      go_wp2_with fail
      refine (cS _ hD.1.1).mono ?_
      rintro e w1 ⟨rfl, q1, k1⟩
      have D1 := Lib.hid (hD.step q1 k1)
      clear q1 k1 g0 g1
      have g0 := D1.out.1.g0
      have g1 := D1.out.1.g1
      go_wp2_with fail
      refine (c47 _ D1.out.1.1).mono ?_
      rintro e w2 ⟨rfl, b2⟩
      have D2 := Lib.hid (D1.out.more b2)
      clear b2 g0 g1
      have g0 := D2.out.1.g0
      have g1 := D2.out.1.g1
      go_wp2_with fail
      refine (c62 _ D2.out.1.1).mono ?_
      rintro e w3 ⟨rfl, b3⟩
      have D3 := Lib.hid (D2.out.more b3)
      have t3 := hT.keep D3.out.1.2.1
      clear b3 g0 g1
      have g0 := D3.out.1.g0
      have g1 := D3.out.1.g1
      go_wp2_with fail
      refine (cA _ D3.out.1.1 t3).mono ?_
      rintro e w4 ⟨⟨N4, V4, a4, rfl, h4⟩, q4, k4⟩
      have D4 := Lib.hid (D3.out.step q4 k4)
      have D5 := Lib.hid (D4.out.alloc (.cells #[.string ⟨#[]⟩, .string N4, .string V4, .int .i64 a4] 56))
      clear q4 k4 t3 g0 g1
      have g0 := D5.out.1.g0
      have g1 := D5.out.1.g1
      clear h4
      go_wp2
      exact bodyPost_ret (v := .tuple #[.slice none 0 0, .int .i64 er]) (by simp [results, Tryz.results109, go_sem]) rfl ⟨_, [], x, er, rfl, World.ownsRow_nil _ _ _ _, D5.out.1.1, D5.out.1.2.1, .inl ⟨her, fun N => by rw [HG.out N]; exact ⟨rfl, rfl⟩⟩⟩
    ·have HE := Lib.hid (hend (.inr (.inr h62)))
     rw [h47] at c47
     rw [h62] at c62
     clear hend hrel h47 h62
     generalize spP s.data.toList a = m at *
     go_wp2_with fail
     refine (cS _ hD.1.1).mono ?_
     rintro e w1 ⟨rfl, q1, k1⟩
     have D1 := Lib.hid (hD.step q1 k1)
     clear q1 k1 g0 g1
     have g0 := D1.out.1.g0
     have g1 := D1.out.1.g1
     go_wp2_with fail
     refine (c47 _ D1.out.1.1).mono ?_
     rintro e w2 ⟨rfl, b2⟩
     have D2 := Lib.hid (D1.out.more b2)
     clear b2 g0 g1
     have g0 := D2.out.1.g0
     have g1 := D2.out.1.g1
     go_wp2_with fail
     refine (c62 _ D2.out.1.1).mono ?_
     rintro e w3 ⟨rfl, b3⟩
     have D3 := Lib.hid (D2.out.more b3)
     clear b3 g0 g1
     go_wp2
     exact bodyPost_ret (v := .tuple #[.slice A acc.length c, .int .i64 0]) (by simp [results, Tryz.results109, go_sem]) rfl ⟨_, acc, _, 0, rfl, Go.Joins.ownsRow_le D3.out.2.1 (by omega), D3.out.1.1, D3.out.1.2.1, .inr ⟨rfl, m, rfl, hml, HE.out⟩⟩
   ·have HE := Lib.hid (hend (.inr (.inl h47)))
    rw [h47] at c47
    clear hend hrel h47 c62
    generalize spP s.data.toList a = m at *
    go_wp2_with fail
    refine (cS _ hD.1.1).mono ?_
    rintro e w1 ⟨rfl, q1, k1⟩
    have D1 := Lib.hid (hD.step q1 k1)
    clear q1 k1 g0 g1
    have g0 := D1.out.1.g0
    have g1 := D1.out.1.g1
    go_wp2_with fail
    refine (c47 _ D1.out.1.1).mono ?_
    rintro e w2 ⟨rfl, b2⟩
    have D2 := Lib.hid (D1.out.more b2)
    clear b2 g0 g1
    go_wp2
    exact bodyPost_ret (v := .tuple #[.slice A acc.length c, .int .i64 0]) (by simp [results, Tryz.results109, go_sem]) rfl ⟨_, acc, _, 0, rfl, Go.Joins.ownsRow_le D2.out.2.1 (by omega), D2.out.1.1, D2.out.1.2.1, .inr ⟨rfl, m, rfl, hml, HE.out⟩⟩
end
end
section
section
open Go.RowKit
def tokZs : Array Value := #[.int .i64 0, .string ⟨#[]⟩, .slice none 0 0, .bool false, .string ⟨#[]⟩, .int .i64 0]
theorem Blk.six {w : World} {b : Nat} {T : TypeId} (h : Blk w b tokZs T) : (w.cell? ⟨b, 0, none⟩ = some (.int .i64 0) ∧ w.cell? ⟨b, 1, none⟩ = some (.string ⟨#[]⟩) ∧ w.cell? ⟨b, 2, none⟩ = some (.slice none 0 0) ∧ w.cell? ⟨b, 3, none⟩ = some (.bool false) ∧ w.cell? ⟨b, 4, none⟩ = some (.string ⟨#[]⟩) ∧ w.cell? ⟨b, 5, none⟩ = some (.int .i64 0)) ∧ (w.frozen? ⟨b, 0, none⟩ = false ∧ w.frozen? ⟨b, 1, none⟩ = false ∧ w.frozen? ⟨b, 2, none⟩ = false ∧ w.frozen? ⟨b, 3, none⟩ = false ∧ w.frozen? ⟨b, 4, none⟩ = false ∧ w.frozen? ⟨b, 5, none⟩ = false) :=
 ⟨⟨(h.cell 0).trans rfl, (h.cell 1).trans rfl, (h.cell 2).trans rfl, (h.cell 3).trans rfl, (h.cell 4).trans rfl, (h.cell 5).trans rfl⟩, h.fr 0, h.fr 1, h.fr 2, h.fr 3, h.fr 4, h.fr 5⟩
theorem Cur.set6 {w : World} {p b : Nat} {s : ByteArray} {k : Int} (h : Cur w p s k) (hb : b ≠ p) (u0 u1 u2 u3 u4 u5 : Value) : Cur ((((((w.setCell ⟨b, 0, none⟩ u0).setCell ⟨b, 1, none⟩ u1).setCell ⟨b, 2, none⟩ u2).setCell ⟨b, 3, none⟩ u3).setCell ⟨b, 4, none⟩ u4).setCell ⟨b, 5, none⟩ u5) p s k :=
 (((((h.own (q := ⟨b, 0, none⟩) hb u0).own (q := ⟨b, 1, none⟩) hb u1).own (q := ⟨b, 2, none⟩) hb u2).own (q := ⟨b, 3, none⟩) hb u3).own (q := ⟨b, 4, none⟩) hb u4).own (q := ⟨b, 5, none⟩) hb u5
theorem Keep.set6 {a w : World} {p b : Nat} (h : Keep p a w) (hb : a.heap.size ≤ b) (u0 u1 u2 u3 u4 u5 : Value) : Keep p a ((((((w.setCell ⟨b, 0, none⟩ u0).setCell ⟨b, 1, none⟩ u1).setCell ⟨b, 2, none⟩ u2).setCell ⟨b, 3, none⟩ u3).setCell ⟨b, 4, none⟩ u4).setCell ⟨b, 5, none⟩ u5) :=
 (((((h.own (q := ⟨b, 0, none⟩) hb u0).own (q := ⟨b, 1, none⟩) hb u1).own (q := ⟨b, 2, none⟩) hb u2).own (q := ⟨b, 3, none⟩) hb u3).own (q := ⟨b, 4, none⟩) hb u4).own (q := ⟨b, 5, none⟩) hb u5
theorem row_own {w : World} {base : Nat} {e : TypeId} {size : Nat} {v : Value} {n : Nat} {xs : List Value} (h : w.ownsRow base e size v n xs) {a : Addr} (ha : v.ownBlock ≠ some a.block) (u : Value) : (w.setCell a u).ownsRow base e size v n xs := by
 obtain ⟨h1, h2⟩ := h
 refine ⟨h1, ?_⟩
 rcases h2 with h2 | ⟨g, cap, cur, hv, hg, hh, r⟩
 ·exact Or.inl h2
 ·refine Or.inr ⟨g, cap, cur, hv, hg, ?_, r⟩
  rw [Below.heap_setCell _ _ _ _ (fun e => ha (by rw [hv, ← e]; rfl))]
  exact hh
theorem row_set6 {w : World} {base b : Nat} {e : TypeId} {size : Nat} {v : Value} {n : Nat} {xs : List Value} (h : w.ownsRow base e size v n xs) (hb : v.ownBlock ≠ some b) (u0 u1 u2 u3 u4 u5 : Value) : ((((((w.setCell ⟨b, 0, none⟩ u0).setCell ⟨b, 1, none⟩ u1).setCell ⟨b, 2, none⟩ u2).setCell ⟨b, 3, none⟩ u3).setCell ⟨b, 4, none⟩ u4).setCell ⟨b, 5, none⟩ u5).ownsRow base e size v n xs :=
 row_own (row_own (row_own (row_own (row_own (row_own h (a := ⟨b, 0, none⟩) hb u0) (a := ⟨b, 1, none⟩) hb u1) (a := ⟨b, 2, none⟩) hb u2) (a := ⟨b, 3, none⟩) hb u3) (a := ⟨b, 4, none⟩) hb u4) (a := ⟨b, 5, none⟩) hb u5
def ConC (w0 : World) (p : Nat) (s : ByteArray) (R : TokD × Int × Int) (e : Ending) (w' : World) : Prop := ∃ (T : TokD) (v : Value), e = .returned (.tuple #[tokVal T v, .int .i64 R.2.2]) ∧ w'.ownsRow w0.heap.size 56 4 v T.al.length (aCs T.al) ∧ Cur w' p s R.2.1 ∧ Keep p w0 w' ∧ (R.2.2 = 0 → T = R.1 ∨ (T.kind = 0 ∧ T.tx = [] ∧ R.1.kind = 3 ∧ R.1.tx = []))
theorem expP_one (s : ByteArray) (i : Int) (k : Nat) (c : UInt8) : expP s i k [c] = if hasP s.data.toList (k : Int) [c] then ((k : Int) + 1, 0) else misP s.size i k := rfl
set_option maxHeartbeats 16000000 in
theorem tag_end (p : Nat) (s : ByteArray) (i : Nat) (w : World) (hC : Cur w p s ((i + 2 : Nat) : Int)) (hi : i + 2 ≤ s.size) (hs : s.size ≤ 1000000) (hT : TkT p w) :
  Calls Tryz.prog 89 #[rdrV p i] w fun e w' => ConC w p s (⟨2, (endP s i).1, [], false, [], i⟩, (endP s i).2.1, (endP s i).2.2) e w' := by
 have hsl : s.data.toList.length = s.size := by simp
 have hpw := hC.lt
 have D0 := Lib.hid (AT.new hC i tokZs 64)
 unfold tokZs at D0
 have t0 := hT.keep D0.out.1.2.1
 have hep := endP_def s i
 unfold ConC
 by_cases hn : nmP s (i + 2) = i + 2
 ·have cN : ∀ wx, Cur wx p s ((i + 2 : Nat) : Int) → TkT p wx → _ := fun wx h t => tag_name_no p s i (i + 2) wx h hi hs t hn
  rw [if_pos hn] at hep
  rw [hep]
  have hmn := misP_ne s.size i ((i + 2 : Nat) : Int)
  generalize misP s.size i ((i + 2 : Nat) : Int) = mp at *
  obtain ⟨y1, y2⟩ := mp
  simp only at cN hmn ⊢
  have herb : (y2 != 0) = true := by simpa using hmn
  unfold rdrV at *
  clear hep hn hC hsl
  go_enter Tryz.func89, Tryz.ntmps89
  go_wp2_with fail
  refine (cN _ D0.out.1.1 t0).mono ?_
  rintro e w1 ⟨rfl, c1, k1⟩
  have D1 := Lib.hid (D0.out.step c1 k1)
  obtain ⟨⟨r0, r1, r2, r3, r4, r5⟩, f0, f1, f2, f3, f4, f5⟩ := Blk.six D1.out.2
  clear c1 k1 t0
  go_wp2
  exact bodyPost_ret (v := .tuple #[.agg #[.int .i64 0, .string ⟨#[]⟩, .slice none 0 0, .bool false, .string ⟨#[]⟩, .int .i64 0], .int .i64 y2]) (by simp [results, Tryz.results89, go_sem, cSs, r0, r1, r2, r3, r4, r5]) rfl ⟨tokZ, _, rfl, World.ownsRow_nil _ _ _ _, Cur.set6 D1.out.1.1 (by omega) _ _ _ _ _ _, Keep.set6 D1.out.1.2.1 (by omega) _ _ _ _ _ _, fun h => absurd h hmn⟩
 ·have cN : ∀ wx, Cur wx p s ((i + 2 : Nat) : Int) → TkT p wx → _ := fun wx h t => tag_name_yes p s i (i + 2) wx h hi hs t hn
  rw [if_neg hn] at hep
  have hle := nmP_le s (i + 2) hi
  have cS : ∀ wx, Cur wx p s (nmP s (i + 2) : Nat) → _ := fun wx h => cur_skipSpace p s (nmP s (i + 2)) wx h hle.2 hs
  have hsp := spP_le s.data.toList (nmP s (i + 2)) (by omega)
  have cE : ∀ wx, Cur wx p s (spP s.data.toList (nmP s (i + 2)) : Nat) → _ := fun wx h => tag_expect p s ⟨#[62]⟩ i (spP s.data.toList (nmP s (i + 2))) wx h (by omega) hs (by decide)
  rw [show (⟨#[62]⟩ : ByteArray).data.toList = [62] from rfl, expP_one] at cE
  have hep2 : endP s i = ((s.data.toList.drop (i + 2)).take (nmP s (i + 2) - (i + 2)), (if hasP s.data.toList ((spP s.data.toList (nmP s (i + 2)) : Nat) : Int) [62] then (((spP s.data.toList (nmP s (i + 2)) : Nat) : Int) + 1, 0) else misP s.size i ((spP s.data.toList (nmP s (i + 2)) : Nat) : Int))) := by
   rw [hep]; split <;> rfl
  rw [hep2]
  generalize (if hasP s.data.toList ((spP s.data.toList (nmP s (i + 2)) : Nat) : Int) [62] then (((spP s.data.toList (nmP s (i + 2)) : Nat) : Int) + 1, (0 : Int)) else misP s.size i ((spP s.data.toList (nmP s (i + 2)) : Nat) : Int)) = rp at *
  obtain ⟨y1, y2⟩ := rp
  generalize spP s.data.toList (nmP s (i + 2)) = k1 at *
  generalize decide (nmP s (i + 2) < k1) = bb at *
  generalize (s.data.toList.drop (i + 2)).take (nmP s (i + 2) - (i + 2)) = N at *
  generalize nmP s (i + 2) = nk at *
  simp only at cE ⊢
  unfold rdrV at *
  obtain ⟨NS, hNS⟩ : ∃ NS, oB N = NS := ⟨_, rfl⟩
  rw [hNS] at cN
  have HNS := Lib.hid hNS
  clear hep hep2 hn hC hsl hle hsp hNS
  go_enter Tryz.func89, Tryz.ntmps89
  go_wp2_with fail
  refine (cN _ D0.out.1.1 t0).mono ?_
  rintro e w1 ⟨rfl, c1, k1'⟩
  have D1 := Lib.hid (D0.out.step c1 k1')
  have g0 := D1.out.1.g0
  have g1 := D1.out.1.g1
  clear c1 k1' t0
  go_wp2_with fail
  refine (cS _ D1.out.1.1).mono ?_
  rintro e w2 ⟨rfl, c2, k2⟩
  have D2 := Lib.hid (D1.out.step c2 k2)
  clear g0 g1 c2 k2
  have g0 := D2.out.1.g0
  have g1 := D2.out.1.g1
  have cE2 := cE w2.drew D2.out.1.1
  have hD2 : ∀ w5, Cur w5 p s y1 → Keep p w2.drew w5 → AT #[.int .i64 0, .string ⟨#[]⟩, .slice none 0 0, .bool false, .string ⟨#[]⟩, .int .i64 0] 64 w w5 p s i y1 := fun w5 c k => D2.out.step c ((Keep.refl _ _).drew.trans k)
  have HD2 := Lib.hid hD2
  clear hD2
  clear cN cS cE D0 hT
  go_wp2
  go_region_with (go_at_call 108; refine cE2.mono ?_; rintro e w5 ⟨rfl, c5, k5⟩; have D5 := Lib.hid (HD2.out w5 c5 k5); have h0 := D5.out.1.g0; have h1 := D5.out.1.g1; obtain ⟨⟨r0, r1, r2, r3, r4, r5⟩, f0, f1, f2, f3, f4, f5⟩ := Blk.six D5.out.2; clear c5 k5)
  all_goals go_wp2
  all_goals exact bodyPost_ret (v := .tuple #[.agg #[.int .i64 2, .string NS, .slice none 0 0, .bool false, .string ⟨#[]⟩, .int .i64 i], .int .i64 y2]) (by simp [results, Tryz.results89, go_sem, cSs, r0, r1, r2, r3, r4, r5]) rfl ⟨⟨2, N, [], false, [], i⟩, .slice none 0 0, (by rw [← HNS.out]; rfl), World.ownsRow_nil _ _ _ _, Cur.set6 D5.out.1.1 (by omega) _ _ _ _ _ _, Keep.set6 D5.out.1.2.1 (by omega) _ _ _ _ _ _, fun _ => .inl rfl⟩
end
section
open Go.RowKit
theorem startEnd_no (s : ByteArray) (i : Nat) (N : List UInt8) (m : Nat) (al : List AttrD) (h : hasP s.data.toList (m : Int) [47] = false) : startEnd s i N m al = ⟨N, al, false, (expP s i m [62]).1, (expP s i m [62]).2⟩ := by
 unfold startEnd
 rw [expP_one]
 by_cases h1 : hasP s.data.toList (m : Int) [62] = true
 ·rw [if_pos h1, if_pos h1]
 ·rw [if_neg h1, if_neg h1, if_neg (fun e => by rw [has_pre e] at h; cases h), if_neg (by rw [h]; decide)]
theorem has_two (l : List UInt8) (m : Nat) (a b : UInt8) (h : hasP l (m : Int) [a] = true) : hasP l (m : Int) [a, b] = hasP l ((m + 1 : Nat) : Int) [b] := by
 obtain ⟨hm, he⟩ := hasP_one l m a h
 rw [← pre_has, ← pre_has, List.drop_eq_getElem_cons hm, he, List.isPrefixOf]
 simp
theorem startEnd_yes (s : ByteArray) (i : Nat) (N : List UInt8) (m : Nat) (al : List AttrD) (h : hasP s.data.toList (m : Int) [47] = true) : (startEnd s i N m al).p1 = (expP s i (m + 1) [62]).1 ∧ (startEnd s i N m al).p2 = (expP s i (m + 1) [62]).2 ∧ ((expP s i (m + 1) [62]).2 = 0 → startEnd s i N m al = ⟨N, al, true, (expP s i (m + 1) [62]).1, (expP s i (m + 1) [62]).2⟩) := by
 obtain ⟨hm, he⟩ := hasP_one s.data.toList m 47 h
 have h1 : hasP s.data.toList (m : Int) [62] = false := hasP_no [] (c := 47) (by rw [List.getElem?_eq_getElem hm, he]) (by decide)
 have h2 := has_two s.data.toList m 47 62 h
 unfold startEnd
 rw [expP_one, if_neg (by rw [h1]; decide), h2]
 by_cases h3 : hasP s.data.toList ((m + 1 : Nat) : Int) [62] = true
 ·rw [if_pos h3, if_pos h3]
  refine ⟨by simp only; omega, rfl, fun _ => ?_⟩
  rw [show ((m + 1 : Nat) : Int) + 1 = (m : Int) + 2 by omega]
 ·rw [if_neg h3, if_neg h3, if_pos h, show ((m + 1 : Nat) : Int) = (m : Int) + 1 by omega]
  exact ⟨rfl, rfl, fun e => absurd e (misP_ne _ _ _)⟩
set_option maxHeartbeats 16000000 in
theorem tag_start (p : Nat) (s : ByteArray) (i : Nat) (w : World) (hC : Cur w p s ((i + 1 : Nat) : Int)) (hi : i + 1 ≤ s.size) (hs : s.size ≤ 1000000) (hT : TkT p w) :
  Calls Tryz.prog 90 #[rdrV p i] w fun e w' => ConC w p s (⟨1, (startP s i).nm, (startP s i).al, (startP s i).em, [], i⟩, (startP s i).p1, (startP s i).p2) e w' := by
 have hsl : s.data.toList.length = s.size := by simp
 have hpw := hC.lt
 have D0 := Lib.hid (AT.new hC i tokZs 64)
 unfold tokZs at D0
 have t0 := hT.keep D0.out.1.2.1
 have hep : startP s i = (if nmP s (i + 1) = i + 1 then ⟨[], [], false, (misP s.size i ((i + 1 : Nat) : Int)).1, (misP s.size i ((i + 1 : Nat) : Int)).2⟩ else startGo s i ((s.data.toList.drop (i + 1)).take (nmP s (i + 1) - (i + 1))) (s.size + 1) (nmP s (i + 1)) []) := rfl
 unfold ConC
 by_cases hn : nmP s (i + 1) = i + 1
 ·have cN : ∀ wx, Cur wx p s ((i + 1 : Nat) : Int) → TkT p wx → _ := fun wx h t => tag_name_no p s i (i + 1) wx h hi hs t hn
  rw [if_pos hn] at hep
  rw [hep]
  have hmn := misP_ne s.size i ((i + 1 : Nat) : Int)
  generalize misP s.size i ((i + 1 : Nat) : Int) = mp at *
  obtain ⟨y1, y2⟩ := mp
  simp only at cN hmn ⊢
  have herb : (y2 != 0) = true := by simpa using hmn
  unfold rdrV at *
  clear hep hn hC hsl
  go_enter Tryz.func90, Tryz.ntmps90
  go_wp2_with fail
  refine (cN _ D0.out.1.1 t0).mono ?_
  rintro e w1 ⟨rfl, c1, k1⟩
  have D1 := Lib.hid (D0.out.step c1 k1)
  obtain ⟨⟨r0, r1, r2, r3, r4, r5⟩, f0, f1, f2, f3, f4, f5⟩ := Blk.six D1.out.2
  clear c1 k1 t0
  go_wp2
  exact bodyPost_ret (v := .tuple #[.agg #[.int .i64 0, .string ⟨#[]⟩, .slice none 0 0, .bool false, .string ⟨#[]⟩, .int .i64 0], .int .i64 y2]) (by simp [results, Tryz.results90, go_sem, cSs, r0, r1, r2, r3, r4, r5]) rfl ⟨tokZ, _, rfl, World.ownsRow_nil _ _ _ _, Cur.set6 D1.out.1.1 (by omega) _ _ _ _ _ _, Keep.set6 D1.out.1.2.1 (by omega) _ _ _ _ _ _, fun h => absurd h hmn⟩
 ·have cN : ∀ wx, Cur wx p s ((i + 1 : Nat) : Int) → TkT p wx → _ := fun wx h t => tag_name_yes p s i (i + 1) wx h hi hs t hn
  rw [if_neg hn] at hep
  have hle := nmP_le s (i + 1) hi
  have cA : ∀ wx, Cur wx p s (nmP s (i + 1) : Nat) → TkT p wx → _ := fun wx h t => tag_attributes p s i (nmP s (i + 1)) wx h hle.2 hs t
  obtain ⟨SP, hSP⟩ : ∃ SP, startP s i = SP := ⟨_, rfl⟩
  rw [hSP] at hep ⊢
  have HSP := Lib.hid hep
  generalize (s.data.toList.drop (i + 1)).take (nmP s (i + 1) - (i + 1)) = N at *
  generalize nmP s (i + 1) = nk at *
  have cK47 : ∀ (m : Nat) wx, m ≤ s.size → hasP s.data.toList (m : Int) [47] = false → Cur wx p s m → _ := fun m wx hm hb h => cur_skip_no p s ⟨#[47]⟩ m wx h hm hb
  have cY47 : ∀ (m : Nat) wx, m ≤ s.size → hasP s.data.toList (m : Int) [47] = true → Cur wx p s m → _ := fun m wx hm hb h => cur_skip_yes p s ⟨#[47]⟩ m wx h hm hs (by decide) hb
  have cE : ∀ (m : Nat) wx, m ≤ s.size → Cur wx p s m → _ := fun m wx hm h => tag_expect p s ⟨#[62]⟩ i m wx h hm hs (by decide)
  rw [show (⟨#[62]⟩ : ByteArray).data.toList = [62] from rfl] at cE
  unfold rdrV at *
  obtain ⟨NS, hNS⟩ : ∃ NS, oB N = NS := ⟨_, rfl⟩
  rw [hNS] at cN
  have HNS := Lib.hid hNS
  clear hep hn hC hle hNS hSP
  go_enter Tryz.func90, Tryz.ntmps90
  go_wp2_with fail
  refine (cN _ D0.out.1.1 t0).mono ?_
  rintro e w1 ⟨rfl, c1, k1'⟩
  have D1 := Lib.hid (D0.out.step c1 k1')
  have t1 := hT.keep D1.out.1.2.1
  have g0 := D1.out.1.g0
  have g1 := D1.out.1.g1
  clear c1 k1' t0
  go_wp2_with fail
  refine (cA _ D1.out.1.1 t1).mono ?_
  rintro e w2 ⟨v, al, x, er, rfl, hrow, c2, k2, hor⟩
  have hbz := D1.out.2.lt
  have D2 := Lib.hid (D1.out.step c2 k2)
  obtain ⟨A, c, rfl⟩ := own_form hrow
  have hrow2 := Go.Joins.ownsRow_le hrow (show w.heap.size + 2 ≤ w1.heap.size by omega)
  have HR2 := Lib.hid hrow2
  clear g0 g1 c2 k2 t1 hrow hrow2 cA cN D0 D1
  rcases hor with ⟨her, hgo⟩ | ⟨rfl, m, rfl, hm, hgo⟩
  ·have hp1 : SP.p1 = x := by rw [HSP.out]; exact (hgo N).1
   have hp2 : SP.p2 = er := by rw [HSP.out]; exact (hgo N).2
   have HP1 := Lib.hid hp1
   have HP2 := Lib.hid hp2
   have herb : (er != 0) = true := by simpa using her
   obtain ⟨⟨r0, r1, r2, r3, r4, r5⟩, f0, f1, f2, f3, f4, f5⟩ := Blk.six D2.out.2
   clear hgo hp1 hp2 cK47 cY47 cE hbz
   go_wp2
   exact bodyPost_ret (v := .tuple #[.agg #[.int .i64 0, .string ⟨#[]⟩, .slice none 0 0, .bool false, .string ⟨#[]⟩, .int .i64 0], .int .i64 er]) (by simp [results, Tryz.results90, go_sem, cSs, r0, r1, r2, r3, r4, r5]) rfl ⟨tokZ, _, (by rw [HP2.out]; rfl), World.ownsRow_nil _ _ _ _, (by rw [HP1.out]; exact Cur.set6 D2.out.1.1 (by omega) _ _ _ _ _ _), Keep.set6 D2.out.1.2.1 (by omega) _ _ _ _ _ _, fun h => absurd (HP2.out.symm.trans h) her⟩
  ·have hSPe : SP = startEnd s i N m al := by rw [HSP.out]; exact hgo N
   have g0 := D2.out.1.g0
   have g1 := D2.out.1.g1
   rcases hb : hasP s.data.toList (m : Int) [47] with _ | _
   ·have hse := startEnd_no s i N m al hb
    have cK := fun wx => cK47 m wx hm hb
    have cX := fun wx => cE m wx hm
    rw [hse] at hSPe
    generalize expP s (i : Int) m [62] = ep at *
    obtain ⟨y1, y2⟩ := ep
    simp only at cX hSPe
    have HP1 := Lib.hid (show SP.p1 = y1 by rw [hSPe])
    have HP2 := Lib.hid (show SP.p2 = y2 by rw [hSPe])
    have HT := Lib.hid (show y2 = 0 → SP = ⟨N, al, false, y1, y2⟩ from fun _ => hSPe)
    clear hgo hSPe hse hb HSP cK47 cY47 cE
    go_wp2_with fail
    refine (cK _ D2.out.1.1).mono ?_
    rintro e w3 ⟨rfl, b3⟩
    have D3 := Lib.hid (D2.out.more b3)
    have R3 := Lib.hid (row_below HR2.out (b3.mono (Nat.le_refl _)))
    clear g0 g1 b3
    have g0 := D3.out.1.g0
    have g1 := D3.out.1.g1
    have cE2 := cX w3.drew D3.out.1.1
    have hD3 : ∀ w5, Cur w5 p s y1 → Keep p w3.drew w5 → AT #[.int .i64 0, .string ⟨#[]⟩, .slice none 0 0, .bool false, .string ⟨#[]⟩, .int .i64 0] 64 w w5 p s i y1 ∧ w5.ownsRow (w.heap.size + 2) 56 4 (.slice A al.length c) al.length (aCs al) := fun w5 c' k => ⟨D3.out.step c' ((Keep.refl _ _).drew.trans k), ((Keep.refl _ _).drew.trans k).row R3.out (by omega)⟩
    have HD3 := Lib.hid hD3
    clear hD3 cK cX D2 HR2 hT hi hs hm
    go_wp2
    go_region_with (go_at_call 108; refine cE2.mono ?_; rintro e w5 ⟨rfl, c5, k5⟩; have D5 := Lib.hid (HD3.out w5 c5 k5); have h0 := D5.out.1.1.g0; have h1 := D5.out.1.1.g1; obtain ⟨⟨r0, r1, r2, r3, r4, r5⟩, f0, f1, f2, f3, f4, f5⟩ := Blk.six D5.out.1.2; clear c5 k5)
    all_goals go_wp2
    all_goals exact bodyPost_ret (v := .tuple #[.agg #[.int .i64 1, .string NS, .slice A al.length c, .bool false, .string ⟨#[]⟩, .int .i64 i], .int .i64 y2]) (by simp [results, Tryz.results90, go_sem, cSs, r0, r1, r2, r3, r4, r5]) rfl ⟨⟨1, N, al, false, [], i⟩, .slice A al.length c, (by rw [HP2.out, ← HNS.out]; rfl), Go.Joins.ownsRow_le (row_set6 D5.out.2 (fun e => by have := (D5.out.2.lt _ e).1; omega) _ _ _ _ _ _) (by omega), (by rw [HP1.out]; exact Cur.set6 D5.out.1.1.1 (by omega) _ _ _ _ _ _), Keep.set6 D5.out.1.1.2.1 (by omega) _ _ _ _ _ _, fun h => .inl (by rw [HT.out (HP2.out.symm.trans h)])⟩
   ·obtain ⟨hy1, hy2, hy3⟩ := startEnd_yes s i N m al hb
    have hm1 : m + 1 ≤ s.size := by
     have := hasP_len hb (by simp)
     simp only [List.length_cons, List.length_nil] at this
     omega
    have cK := fun wx => cY47 m wx hm hb
    have cX := fun wx (h : Cur wx p s ((m : Int) + 1)) => cE (m + 1) wx hm1 (by rw [show ((m + 1 : Nat) : Int) = (m : Int) + 1 by omega]; exact h)
    rw [← hSPe] at hy1 hy2 hy3
    generalize expP s (i : Int) (m + 1) [62] = ep at *
    obtain ⟨y1, y2⟩ := ep
    simp only at cX hy1 hy2 hy3
    have HP1 := Lib.hid hy1
    have HP2 := Lib.hid hy2
    have HT := Lib.hid hy3
    clear hgo hSPe hb HSP cK47 cY47 cE hy1 hy2 hy3
    go_wp2_with fail
    refine (cK _ D2.out.1.1).mono ?_
    rintro e w3 ⟨rfl, c3, k3⟩
    have D3 := Lib.hid (D2.out.step c3 k3)
    have R3 := Lib.hid (k3.row HR2.out (by omega))
    clear g0 g1 c3 k3
    have g0 := D3.out.1.g0
    have g1 := D3.out.1.g1
    have cE2 := cX w3.drew D3.out.1.1
    have hD3 : ∀ w5, Cur w5 p s y1 → Keep p w3.drew w5 → AT #[.int .i64 0, .string ⟨#[]⟩, .slice none 0 0, .bool false, .string ⟨#[]⟩, .int .i64 0] 64 w w5 p s i y1 ∧ w5.ownsRow (w.heap.size + 2) 56 4 (.slice A al.length c) al.length (aCs al) := fun w5 c' k => ⟨D3.out.step c' ((Keep.refl _ _).drew.trans k), ((Keep.refl _ _).drew.trans k).row R3.out (by omega)⟩
    have HD3 := Lib.hid hD3
    clear hD3 cK cX D2 HR2 hT hi hs hm
    go_wp2
    go_region_with (go_at_call 108; refine cE2.mono ?_; rintro e w5 ⟨rfl, c5, k5⟩; have D5 := Lib.hid (HD3.out w5 c5 k5); have h0 := D5.out.1.1.g0; have h1 := D5.out.1.1.g1; obtain ⟨⟨r0, r1, r2, r3, r4, r5⟩, f0, f1, f2, f3, f4, f5⟩ := Blk.six D5.out.1.2; clear c5 k5)
    all_goals go_wp2
    all_goals exact bodyPost_ret (v := .tuple #[.agg #[.int .i64 1, .string NS, .slice A al.length c, .bool true, .string ⟨#[]⟩, .int .i64 i], .int .i64 y2]) (by simp [results, Tryz.results90, go_sem, cSs, r0, r1, r2, r3, r4, r5]) rfl ⟨⟨1, N, al, true, [], i⟩, .slice A al.length c, (by rw [HP2.out, ← HNS.out]; rfl), Go.Joins.ownsRow_le (row_set6 D5.out.2 (fun e => by have := (D5.out.2.lt _ e).1; omega) _ _ _ _ _ _) (by omega), (by rw [HP1.out]; exact Cur.set6 D5.out.1.1.1 (by omega) _ _ _ _ _ _), Keep.set6 D5.out.1.1.2.1 (by omega) _ _ _ _ _ _, fun h => .inl (by rw [HT.out (HP2.out.symm.trans h)])⟩
end
end
section
section
open Go.RowKit
set_option maxHeartbeats 8000000 in
theorem cur_section_no (p : Nat) (s o t : ByteArray) (k : Nat) (w : World) (hC : Cur w p s k) (hk : k + o.size ≤ s.size) (hs : s.size ≤ 1000000) (ho : o.size ≤ 100) (ht : t.size ≤ 100) (hT : TkT p w) (hi : Lib.index (s.data.toList.drop (k + o.size)) t.data.toList = -1) :
  Calls Tryz.prog 63 #[.pointer (some ⟨p, 0, none⟩), .string o, .string t] w fun e w' => e = .returned (.tuple #[.string ⟨#[]⟩, .int .i64 8]) ∧ Cur w' p s k ∧ Keep p w w' := by
 have hsl : s.data.toList.length = s.size := by simp
 have htl : t.data.toList.length = t.size := by simp
 have cR : ∀ wx, Cur wx p s k → _ := fun wx h => cur_rest p s k wx h (by omega)
 have hRl : (oB (s.data.toList.drop k)).data.toList = s.data.toList.drop k := oBl _
 have hRz : (oB (s.data.toList.drop k)).size = s.size - k := by rw [oBz, List.length_drop, hsl]
 have hsf : ∀ wx, _ := fun wx => slice_from (oB (s.data.toList.drop k)) (o.size : Nat) (by omega) (by omega) wx
 rw [Int.toNat_natCast, kext, hRl, List.take_of_length_le (by rw [List.length_drop, List.length_drop, hRz]; omega), List.drop_drop] at hsf
 have hQl : (oB (s.data.toList.drop (k + o.size))).data.toList = s.data.toList.drop (k + o.size) := oBl _
 have hQz : (oB (s.data.toList.drop (k + o.size))).size = s.size - (k + o.size) := by rw [oBz, List.length_drop, hsl]
 obtain ⟨m, hm⟩ := hT.tabs.2.2
 have hmb := kbl hm
 have cC : ∀ wx : World, wx.cell? ⟨3, 0, none⟩ = some (Value.int .i64 m) → _ := fun wx h => Tryz.strings_Cut (oB (s.data.toList.drop (k + o.size))) t m wx (by omega) h
 rw [hQl] at cC
 have hk6 : (k : Int) ≤ 1000000 := by omega
 have ho6 : (o.size : Int) ≤ 100 := by omega
 have ht6 : (t.size : Int) ≤ 100 := by omega
 have HC := Lib.hid hC
 have hcut : Lib.cut (s.data.toList.drop (k + o.size)) t.data.toList = (s.data.toList.drop (k + o.size), [], false) := by
  unfold Lib.cut; rw [if_neg (by omega)]
 rw [hcut] at cC
 simp only at cC
 generalize (⟨(s.data.toList.drop (k + o.size)).toArray⟩ : ByteArray) = Q2 at *
 generalize oB (s.data.toList.drop (k + o.size)) = Q at *
 generalize oB (s.data.toList.drop k) = R at *
 clear hi hcut hsl htl hQl hQz hRl hRz hC
 go_enter Tryz.func63, Tryz.ntmps63
 go_wp2_with fail
 refine (cR _ HC.out).mono ?_
 rintro e w1 ⟨rfl, b1⟩
 have C1 := Lib.hid (Cur.keep HC.out b1)
 have hm1 := (b1.cell hmb).trans hm
 go_wp2_with fail
 refine (cC _ hm1).mono ?_
 rintro e w2 ⟨rfl, n, rfl⟩
 go_wp2
 exact bodyPost_ret (v := .tuple #[.string ⟨#[]⟩, .int .i64 8]) (by simp [results, Tryz.results63, go_sem]) rfl ⟨rfl, C1.out, (Keep.of b1).drewN n⟩
theorem cur_sect (p : Nat) (s o t : ByteArray) (k : Nat) (w : World) (hC : Cur w p s k) (hk : k + o.size ≤ s.size) (hs : s.size ≤ 1000000) (ho : o.size ≤ 100) (ht : t.size ≤ 100) (ht0 : 0 < t.size) (hT : TkT p w) :
  Calls Tryz.prog 63 #[.pointer (some ⟨p, 0, none⟩), .string o, .string t] w fun e w' => (∃ x, e = .returned (.tuple #[.string x, .int .i64 (skipP s.data.toList k o.size t.data.toList).2]) ∧ x.size ≤ 1000000 ∧ ((skipP s.data.toList k o.size t.data.toList).2 = 0 → x = oB ((s.data.toList.drop (k + o.size)).take ((skipP s.data.toList k o.size t.data.toList).1.toNat - t.size - (k + o.size))))) ∧ Cur w' p s (skipP s.data.toList k o.size t.data.toList).1 ∧ Keep p w w' := by
 have hsl : s.data.toList.length = s.size := by simp
 by_cases hi : Lib.index (s.data.toList.drop (k + o.size)) t.data.toList = -1
 ·have hsk : skipP s.data.toList k o.size t.data.toList = ((k : Int), 8) := by rw [skipP_def, nextP_def, if_pos hi]; rfl
  rw [hsk]
  exact (cur_section_no p s o t k w hC hk hs ho ht hT hi).mono fun _ _ ⟨a, b, c⟩ => ⟨⟨_, a, by decide, fun h => absurd (show (8 : Int) = 0 from h) (by decide)⟩, b, c⟩
 ·have hge := Lib.index_ge (s.data.toList.drop (k + o.size)) t.data.toList
  have hsk : (skipP s.data.toList k o.size t.data.toList).2 = 0 := by rw [skipP_def, nextP_def, if_neg hi, if_neg (by omega)]
  refine (cur_section p s o t k w hC hk hs ho ht ht0 hT).mono ?_
  rintro e w' ⟨⟨x, a, b⟩, c, d⟩
  refine ⟨⟨x, a, ?_, b⟩, c, d⟩
  rw [b hsk, oBz, List.length_take, List.length_drop]
  omega
def TG (w wx : World) (p : Nat) (s : ByteArray) (i k : Int) : Prop := Cur wx p s k ∧ Keep p w wx ∧ Blk wx w.heap.size #[.int .i64 0, .string ⟨#[]⟩, .slice none 0 0, .bool false, .string ⟨#[]⟩, .int .i64 0] 64 ∧ Blk wx (w.heap.size + 1) (rdrC p i) 123 ∧ p < w.heap.size
theorem TG.step {w wx wy : World} {p : Nat} {s : ByteArray} {i k k' : Int} (h : TG w wx p s i k) (c : Cur wy p s k') (q : Keep p wx wy) : TG w wy p s i k' := by
 have hp := h.2.2.2.2
 exact ⟨c, h.2.1.trans q, h.2.2.1.keep q (by omega), h.2.2.2.1.keep q (by omega), hp⟩
theorem TG.more {w wx wy : World} {p : Nat} {s : ByteArray} {i k : Int} (h : TG w wx p s i k) (b : Below wx.heap.size wx wy) : TG w wy p s i k := h.step (h.1.keep b) (Keep.of b)
theorem TG.g0 {w wx : World} {p : Nat} {s : ByteArray} {i k : Int} (h : TG w wx p s i k) : wx.cell? ⟨w.heap.size + 1, 0, none⟩ = some (.pointer (some ⟨p, 0, none⟩)) := (h.2.2.2.1.cell 0).trans rfl
theorem TG.g1 {w wx : World} {p : Nat} {s : ByteArray} {i k : Int} (h : TG w wx p s i k) : wx.cell? ⟨w.heap.size + 1, 1, none⟩ = some (.int .i64 i) := (h.2.2.2.1.cell 1).trans rfl
theorem TG.new {w : World} {p : Nat} {s : ByteArray} {k : Int} (h : Cur w p s k) (i : Int) : TG w ((w.alloc (.cells #[.int .i64 0, .string ⟨#[]⟩, .slice none 0 0, .bool false, .string ⟨#[]⟩, .int .i64 0] 64)).alloc (.cells #[.pointer (some ⟨p, 0, none⟩), .int .i64 i] 123)) p s i k := by
 have h1 := h.keep ((Below.refl _ _).alloc (Nat.le_refl _) (.cells #[.int .i64 0, .string ⟨#[]⟩, .slice none 0 0, .bool false, .string ⟨#[]⟩, .int .i64 0] 64))
 have hz : (w.alloc (.cells #[.int .i64 0, .string ⟨#[]⟩, .slice none 0 0, .bool false, .string ⟨#[]⟩, .int .i64 0] 64)).heap.size = w.heap.size + 1 := by simp
 refine ⟨h1.keep ((Below.refl _ _).alloc (Nat.le_refl _) _), ((Keep.refl _ _).alloc _).alloc _, (Blk.new _ _ _).more ((Below.refl _ _).alloc (Nat.le_refl _) _), ?_, h.lt⟩
 have := Blk.new (w.alloc (.cells #[.int .i64 0, .string ⟨#[]⟩, .slice none 0 0, .bool false, .string ⟨#[]⟩, .int .i64 0] 64)) #[.pointer (some ⟨p, 0, none⟩), .int .i64 i] 123
 rw [hz] at this
 exact this
set_option maxHeartbeats 16000000 in
theorem cur_tag_end (p : Nat) (s : ByteArray) (i : Nat) (w : World) (hC : Cur w p s i) (hb : hasP s.data.toList (i : Int) [60, 47] = true) (hs : s.size ≤ 1000000) (hT : TkT p w) :
  Calls Tryz.prog 65 #[.pointer (some ⟨p, 0, none⟩)] w fun e w' => ConC w p s (⟨2, (endP s i).1, [], false, [], i⟩, (endP s i).2.1, (endP s i).2.2) e w' := by
 have hsl : s.data.toList.length = s.size := by simp
 have hi : i + 2 ≤ s.size := by
  have := hasP_len hb (by simp)
  simp only [List.length_cons, List.length_nil] at this
  omega
 have q0 := hC.c1
 have hpw := hC.lt
 have D0 := Lib.hid (TG.new hC i)
 have cY : ∀ wx, Cur wx p s i → _ := fun wx h => cur_skip_yes p s ⟨#[60, 47]⟩ i wx h (by omega) hs (by decide) hb
 rw [show ((⟨#[60, 47]⟩ : ByteArray).size : Int) = 2 from rfl] at cY
 have cX : ∀ wx, Cur wx p s ((i : Int) + 2) → TkT p wx → _ := fun wx h t => tag_end p s i wx (by rw [show ((i + 2 : Nat) : Int) = (i : Int) + 2 by omega]; exact h) hi hs t
 unfold ConC rdrV at cX
 unfold ConC
 clear hsl hb hC
 go_enter Tryz.func65, Tryz.ntmps65
 go_wp2_with fail
 refine (cY _ D0.out.1).mono ?_
 rintro e w1 ⟨rfl, c1, k1⟩
 have D1 := Lib.hid (D0.out.step c1 k1)
 have g0 := D1.out.g0
 have g1 := D1.out.g1
 have t1 := hT.keep D1.out.2.1
 clear c1 k1
 go_wp2_with fail
 refine (cX _ D1.out.1 t1).mono ?_
 rintro e w2 ⟨T, v, rfl, hrow, c2, k2, hor⟩
 have hb1 := D1.out.2.2.2.1.lt
 have D2 := Lib.hid (D1.out.step c2 k2)
 obtain ⟨A, c, rfl⟩ := own_form hrow
 have HR := Lib.hid (Go.Joins.ownsRow_le hrow (show w.heap.size + 2 ≤ w1.heap.size by omega))
 have HO := Lib.hid hor
 clear c2 k2 hor hrow t1 g0 g1 q0
 obtain ⟨⟨r0, r1, r2, r3, r4, r5⟩, f0, f1, f2, f3, f4, f5⟩ := Blk.six D2.out.2.2.1
 unfold tokVal
 go_wp2
 exact bodyPost_ret (v := .tuple #[.agg #[.int .i64 T.kind, .string (oB T.nm), .slice A T.al.length c, .bool T.em, .string (oB T.tx), .int .i64 T.at'], _]) (by simp [results, Tryz.results65, go_sem, cSs, r0, r1, r2, r3, r4, r5]) rfl ⟨T, .slice A T.al.length c, rfl, Go.Joins.ownsRow_le (row_set6 HR.out (fun e => by have := (HR.out.lt _ e).1; omega) _ _ _ _ _ _) (by omega), Cur.set6 D2.out.1 (by omega) _ _ _ _ _ _, Keep.set6 D2.out.2.1 (by omega) _ _ _ _ _ _, HO.out⟩
set_option maxHeartbeats 16000000 in
theorem cur_tag_start (p : Nat) (s : ByteArray) (i : Nat) (w : World) (hC : Cur w p s i) (hn : hasP s.data.toList (i : Int) [60, 47] = false) (hb : hasP s.data.toList (i : Int) [60] = true) (hs : s.size ≤ 1000000) (hT : TkT p w) :
  Calls Tryz.prog 65 #[.pointer (some ⟨p, 0, none⟩)] w fun e w' => ConC w p s (⟨1, (startP s i).nm, (startP s i).al, (startP s i).em, [], i⟩, (startP s i).p1, (startP s i).p2) e w' := by
 have hsl : s.data.toList.length = s.size := by simp
 have hi : i + 1 ≤ s.size := by
  have := hasP_len hb (by simp)
  simp only [List.length_cons, List.length_nil] at this
  omega
 have q0 := hC.c1
 have hpw := hC.lt
 have D0 := Lib.hid (TG.new hC i)
 have cZ : ∀ wx, Cur wx p s i → _ := fun wx h => cur_skip_no p s ⟨#[60, 47]⟩ i wx h (by omega) hn
 have cY : ∀ wx, Cur wx p s i → _ := fun wx h => cur_skip_yes p s ⟨#[60]⟩ i wx h (by omega) hs (by decide) hb
 rw [show ((⟨#[60]⟩ : ByteArray).size : Int) = 1 from rfl] at cY
 have cX : ∀ wx, Cur wx p s ((i : Int) + 1) → TkT p wx → _ := fun wx h t => tag_start p s i wx (by rw [show ((i + 1 : Nat) : Int) = (i : Int) + 1 by omega]; exact h) hi hs t
 unfold ConC rdrV at cX
 unfold ConC
 clear hsl hb hC hn
 go_enter Tryz.func65, Tryz.ntmps65
 go_wp2_with fail
 refine (cZ _ D0.out.1).mono ?_
 rintro e w0 ⟨rfl, b0⟩
 have D9 := Lib.hid (D0.out.more b0)
 have g0 := D9.out.g0
 clear b0
 go_wp2_with fail
 refine (cY _ D9.out.1).mono ?_
 rintro e w1 ⟨rfl, c1, k1⟩
 have D1 := Lib.hid (D9.out.step c1 k1)
 clear g0
 have g0 := D1.out.g0
 have g1 := D1.out.g1
 have t1 := hT.keep D1.out.2.1
 clear c1 k1
 go_wp2_with fail
 refine (cX _ D1.out.1 t1).mono ?_
 rintro e w2 ⟨T, v, rfl, hrow, c2, k2, hor⟩
 have hb1 := D1.out.2.2.2.1.lt
 have D2 := Lib.hid (D1.out.step c2 k2)
 obtain ⟨A, c, rfl⟩ := own_form hrow
 have HR := Lib.hid (Go.Joins.ownsRow_le hrow (show w.heap.size + 2 ≤ w1.heap.size by omega))
 have HO := Lib.hid hor
 clear c2 k2 hor hrow t1 g0 g1 q0
 obtain ⟨⟨r0, r1, r2, r3, r4, r5⟩, f0, f1, f2, f3, f4, f5⟩ := Blk.six D2.out.2.2.1
 unfold tokVal
 go_wp2
 exact bodyPost_ret (v := .tuple #[.agg #[.int .i64 T.kind, .string (oB T.nm), .slice A T.al.length c, .bool T.em, .string (oB T.tx), .int .i64 T.at'], _]) (by simp [results, Tryz.results65, go_sem, cSs, r0, r1, r2, r3, r4, r5]) rfl ⟨T, .slice A T.al.length c, rfl, Go.Joins.ownsRow_le (row_set6 HR.out (fun e => by have := (HR.out.lt _ e).1; omega) _ _ _ _ _ _) (by omega), Cur.set6 D2.out.1 (by omega) _ _ _ _ _ _, Keep.set6 D2.out.2.1 (by omega) _ _ _ _ _ _, HO.out⟩
end
section
open Go.RowKit
def CG (w wx : World) (p : Nat) (s : ByteArray) (k : Int) : Prop := Cur wx p s k ∧ Keep p w wx ∧ Blk wx w.heap.size #[.int .i64 0, .string ⟨#[]⟩, .slice none 0 0, .bool false, .string ⟨#[]⟩, .int .i64 0] 64 ∧ p < w.heap.size
theorem CG.step {w wx wy : World} {p : Nat} {s : ByteArray} {k k' : Int} (h : CG w wx p s k) (c : Cur wy p s k') (q : Keep p wx wy) : CG w wy p s k' := ⟨c, h.2.1.trans q, h.2.2.1.keep q (by have := h.2.2.2; omega), h.2.2.2⟩
theorem CG.more {w wx wy : World} {p : Nat} {s : ByteArray} {k : Int} (h : CG w wx p s k) (b : Below wx.heap.size wx wy) : CG w wy p s k := h.step (h.1.keep b) (Keep.of b)
theorem CG.new {w : World} {p : Nat} {s : ByteArray} {k : Int} (h : Cur w p s k) : CG w (w.alloc (.cells #[.int .i64 0, .string ⟨#[]⟩, .slice none 0 0, .bool false, .string ⟨#[]⟩, .int .i64 0] 64)) p s k :=
 ⟨h.keep ((Below.refl _ _).alloc (Nat.le_refl _) _), (Keep.refl _ _).alloc _, Blk.new _ _ _, h.lt⟩
set_option maxHeartbeats 16000000 in
theorem cur_construct (p : Nat) (s : ByteArray) (i : Nat) (w : World) (hC : Cur w p s i) (hi : i < s.size) (hs : s.size ≤ 1000000) (hT : TkT p w) :
  Calls Tryz.prog 45 #[.pointer (some ⟨p, 0, none⟩)] w fun e w' => ConC w p s (consP s i) e w' := by
 have hsl : s.data.toList.length = s.size := by simp
 have hpw := hC.lt
 have D0 := Lib.hid (CG.new hC)
 have k1 : ∀ wx, Cur wx p s i → _ := fun wx h => cur_starts p s ⟨#[60, 63]⟩ i _ wx h (by omega) rfl
 have k2 : ∀ wx, Cur wx p s i → _ := fun wx h => cur_starts p s ⟨#[60, 33, 45, 45]⟩ i _ wx h (by omega) rfl
 have k3 : ∀ wx, Cur wx p s i → _ := fun wx h => cur_starts p s ⟨#[60, 33, 91, 67, 68, 65, 84, 65, 91]⟩ i _ wx h (by omega) rfl
 have k4 : ∀ wx, Cur wx p s i → _ := fun wx h => cur_starts p s ⟨#[60, 33, 68, 79, 67, 84, 89, 80, 69]⟩ i _ wx h (by omega) rfl
 have k5 : ∀ wx, Cur wx p s i → _ := fun wx h => cur_starts p s ⟨#[60, 33]⟩ i _ wx h (by omega) rfl
 have k7 : ∀ wx, Cur wx p s i → _ := fun wx h => cur_starts p s ⟨#[60]⟩ i _ wx h (by omega) rfl
 rw [show (⟨#[60, 63]⟩ : ByteArray).data.toList = [60, 63] from rfl] at k1
 rw [show (⟨#[60, 33, 45, 45]⟩ : ByteArray).data.toList = [60, 33, 45, 45] from rfl] at k2
 rw [show (⟨#[60, 33, 91, 67, 68, 65, 84, 65, 91]⟩ : ByteArray).data.toList = [60, 33, 91, 67, 68, 65, 84, 65, 91] from rfl] at k3
 rw [show (⟨#[60, 33, 68, 79, 67, 84, 89, 80, 69]⟩ : ByteArray).data.toList = [60, 33, 68, 79, 67, 84, 89, 80, 69] from rfl] at k4
 rw [show (⟨#[60, 33]⟩ : ByteArray).data.toList = [60, 33] from rfl] at k5
 rw [show (⟨#[60]⟩ : ByteArray).data.toList = [60] from rfl] at k7
 unfold ConC
 obtain ⟨CP, hE⟩ : ∃ CP, consP s i = CP := ⟨_, rfl⟩
 rw [hE]
 unfold consP at hE
 rcases h1 : hasP s.data.toList (i : Int) [60, 63] with _ | _
 ·rw [h1] at hE k1
  rw [if_neg (by decide)] at hE
  rcases h2 : hasP s.data.toList (i : Int) [60, 33, 45, 45] with _ | _
  ·rw [h2] at hE k2
   rw [if_neg (by decide)] at hE
   rcases h3 : hasP s.data.toList (i : Int) [60, 33, 91, 67, 68, 65, 84, 65, 91] with _ | _
   ·rw [h3] at hE k3
    rw [if_neg (by decide)] at hE
    rcases h4 : hasP s.data.toList (i : Int) [60, 33, 68, 79, 67, 84, 89, 80, 69] with _ | _
    ·rw [h4] at hE k4
     rw [if_neg (by decide)] at hE
     rcases h5 : hasP s.data.toList (i : Int) [60, 33] with _ | _
     ·rw [h5] at hE k5
      rw [if_neg (by decide)] at hE
      rcases h6 : hasP s.data.toList (i : Int) [60, 47] with _ | _
      ·rw [h6] at hE
       rw [if_neg (by decide)] at hE
       rcases h7 : hasP s.data.toList (i : Int) [60] with _ | _
       ·rw [h7] at hE k7
        rw [if_neg (by decide)] at hE
        unfold dataP at hE
        rw [stop_lt s _ i (Nat.le_refl _) (by omega)] at hE
        have q0 := hC.c1
        have cD : ∀ wx, Cur wx p s i → TkT p wx → _ := fun wx h t => cur_data_false p s ⟨#[60]⟩ i [60] wx h (by omega) hs (by intro c hc; simp at hc; simp [hc]) rfl (by decide) (by decide) t
        generalize contP s.data.toList i (stopAt [60] s.data.toList i) false = cp at *
        obtain ⟨V, x1, x2⟩ := cp
        subst hE
        simp only at cD
        clear h1 h2 h3 h4 h5 h6 h7 hsl hC
        go_enter Tryz.func45, Tryz.ntmps45
        go_wp2_with fail
        refine (k1 _ D0.out.1).mono ?_
        rintro e w1 ⟨rfl, b1⟩
        have D1 := Lib.hid (D0.out.more b1)
        clear b1
        go_wp2_with fail
        refine (k2 _ D1.out.1).mono ?_
        rintro e w2 ⟨rfl, b2⟩
        have D2 := Lib.hid (D1.out.more b2)
        clear b2
        go_wp2_with fail
        refine (k3 _ D2.out.1).mono ?_
        rintro e w3 ⟨rfl, b3⟩
        have D3 := Lib.hid (D2.out.more b3)
        clear b3
        go_wp2_with fail
        refine (k4 _ D3.out.1).mono ?_
        rintro e w4 ⟨rfl, b4⟩
        have D4 := Lib.hid (D3.out.more b4)
        clear b4
        go_wp2_with fail
        refine (k5 _ D4.out.1).mono ?_
        rintro e w5 ⟨rfl, b5⟩
        have D5 := Lib.hid (D4.out.more b5)
        clear b5
        go_wp2_with fail
        refine (k7 _ D5.out.1).mono ?_
        rintro e w8 ⟨rfl, b8⟩
        have D8 := Lib.hid (D5.out.more b8)
        clear b8
        have t8 := hT.keep D8.out.2.1
        have q8 := D8.out.1.c1
        go_wp2_with fail
        refine (cD _ D8.out.1 t8).mono ?_
        rintro e w9 ⟨rfl, c9, k9⟩
        have D9 := Lib.hid (D8.out.step c9 k9)
        clear c9 k9 t8 q8
        obtain ⟨⟨r0, r1, r2, r3, r4, r5⟩, f0, f1, f2, f3, f4, f5⟩ := Blk.six D9.out.2.2.1
        go_wp2
        exact bodyPost_ret (v := .tuple #[(.agg #[.int .i64 3, .string ⟨#[]⟩, .slice none 0 0, .bool false, .string (oB V), .int .i64 (i : Int)]), .int .i64 x2]) (by simp [results, Tryz.results45, go_sem, cSs, r0, r1, r2, r3, r4, r5]) rfl ⟨(tokT V i), _, rfl, World.ownsRow_nil _ _ _ _, Cur.set6 D9.out.1 (by omega) _ _ _ _ _ _, Keep.set6 D9.out.2.1 (by omega) _ _ _ _ _ _, fun _ => .inl rfl⟩
       ·rw [h7] at hE k7
        rw [if_pos rfl] at hE
        have cT : ∀ wx, Cur wx p s i → TkT p wx → _ := fun wx h t => cur_tag_start p s i wx h h6 h7 hs t
        have hi1 := hC.lt
        subst hE
        unfold ConC at cT
        clear h1 h2 h3 h4 h5 h6 h7 hsl
        go_enter Tryz.func45, Tryz.ntmps45
        go_wp2_with fail
        refine (k1 _ D0.out.1).mono ?_
        rintro e w1 ⟨rfl, b1⟩
        have D1 := Lib.hid (D0.out.more b1)
        clear b1
        go_wp2_with fail
        refine (k2 _ D1.out.1).mono ?_
        rintro e w2 ⟨rfl, b2⟩
        have D2 := Lib.hid (D1.out.more b2)
        clear b2
        go_wp2_with fail
        refine (k3 _ D2.out.1).mono ?_
        rintro e w3 ⟨rfl, b3⟩
        have D3 := Lib.hid (D2.out.more b3)
        clear b3
        go_wp2_with fail
        refine (k4 _ D3.out.1).mono ?_
        rintro e w4 ⟨rfl, b4⟩
        have D4 := Lib.hid (D3.out.more b4)
        clear b4
        go_wp2_with fail
        refine (k5 _ D4.out.1).mono ?_
        rintro e w5 ⟨rfl, b5⟩
        have D5 := Lib.hid (D4.out.more b5)
        clear b5
        go_wp2_with fail
        refine (k7 _ D5.out.1).mono ?_
        rintro e w8 ⟨rfl, b8⟩
        have D8 := Lib.hid (D5.out.more b8)
        clear b8
        have t8 := hT.keep D8.out.2.1
        go_wp2_with fail
        refine (cT _ D8.out.1 t8).mono ?_
        rintro e w9 ⟨T, v, rfl, hrow, c9, k9, hor⟩
        have hb1 := D8.out.2.2.1.lt
        have D9 := Lib.hid (D8.out.step c9 k9)
        obtain ⟨A, c, rfl⟩ := own_form hrow
        have HR := Lib.hid (Go.Joins.ownsRow_le hrow (show w.heap.size + 1 ≤ w8.heap.size by omega))
        have HO := Lib.hid hor
        clear c9 k9 hor hrow t8
        unfold tokVal
        obtain ⟨⟨r0, r1, r2, r3, r4, r5⟩, f0, f1, f2, f3, f4, f5⟩ := Blk.six D9.out.2.2.1
        go_wp2
        exact bodyPost_ret (v := .tuple #[(.agg #[.int .i64 T.kind, .string (oB T.nm), .slice A T.al.length c, .bool T.em, .string (oB T.tx), .int .i64 T.at']), .int .i64 _]) (by simp [results, Tryz.results45, go_sem, cSs, r0, r1, r2, r3, r4, r5]) rfl ⟨T, (.slice A T.al.length c), rfl, Go.Joins.ownsRow_le (row_set6 HR.out (fun e => by have := (HR.out.lt _ e).1; omega) _ _ _ _ _ _) (by omega), Cur.set6 D9.out.1 (by omega) _ _ _ _ _ _, Keep.set6 D9.out.2.1 (by omega) _ _ _ _ _ _, HO.out⟩
      ·rw [h6] at hE
       rw [if_pos rfl] at hE
       have h7 := has_pre h6
       rw [h7] at k7
       have cT : ∀ wx, Cur wx p s i → TkT p wx → _ := fun wx h t => cur_tag_end p s i wx h h6 hs t
       have hi1 := hC.lt
       subst hE
       unfold ConC at cT
       clear h1 h2 h3 h4 h5 h6 h7 hsl
       go_enter Tryz.func45, Tryz.ntmps45
       go_wp2_with fail
       refine (k1 _ D0.out.1).mono ?_
       rintro e w1 ⟨rfl, b1⟩
       have D1 := Lib.hid (D0.out.more b1)
       clear b1
       go_wp2_with fail
       refine (k2 _ D1.out.1).mono ?_
       rintro e w2 ⟨rfl, b2⟩
       have D2 := Lib.hid (D1.out.more b2)
       clear b2
       go_wp2_with fail
       refine (k3 _ D2.out.1).mono ?_
       rintro e w3 ⟨rfl, b3⟩
       have D3 := Lib.hid (D2.out.more b3)
       clear b3
       go_wp2_with fail
       refine (k4 _ D3.out.1).mono ?_
       rintro e w4 ⟨rfl, b4⟩
       have D4 := Lib.hid (D3.out.more b4)
       clear b4
       go_wp2_with fail
       refine (k5 _ D4.out.1).mono ?_
       rintro e w5 ⟨rfl, b5⟩
       have D5 := Lib.hid (D4.out.more b5)
       clear b5
       go_wp2_with fail
       refine (k7 _ D5.out.1).mono ?_
       rintro e w8 ⟨rfl, b8⟩
       have D8 := Lib.hid (D5.out.more b8)
       clear b8
       have t8 := hT.keep D8.out.2.1
       go_wp2_with fail
       refine (cT _ D8.out.1 t8).mono ?_
       rintro e w9 ⟨T, v, rfl, hrow, c9, k9, hor⟩
       have hb1 := D8.out.2.2.1.lt
       have D9 := Lib.hid (D8.out.step c9 k9)
       obtain ⟨A, c, rfl⟩ := own_form hrow
       have HR := Lib.hid (Go.Joins.ownsRow_le hrow (show w.heap.size + 1 ≤ w8.heap.size by omega))
       have HO := Lib.hid hor
       clear c9 k9 hor hrow t8
       unfold tokVal
       obtain ⟨⟨r0, r1, r2, r3, r4, r5⟩, f0, f1, f2, f3, f4, f5⟩ := Blk.six D9.out.2.2.1
       go_wp2
       exact bodyPost_ret (v := .tuple #[(.agg #[.int .i64 T.kind, .string (oB T.nm), .slice A T.al.length c, .bool T.em, .string (oB T.tx), .int .i64 T.at']), .int .i64 _]) (by simp [results, Tryz.results45, go_sem, cSs, r0, r1, r2, r3, r4, r5]) rfl ⟨T, (.slice A T.al.length c), rfl, Go.Joins.ownsRow_le (row_set6 HR.out (fun e => by have := (HR.out.lt _ e).1; omega) _ _ _ _ _ _) (by omega), Cur.set6 D9.out.1 (by omega) _ _ _ _ _ _, Keep.set6 D9.out.2.1 (by omega) _ _ _ _ _ _, HO.out⟩
     ·rw [h5] at hE k5
      rw [if_pos rfl] at hE
      subst hE
      clear h1 h2 h3 h4 h5 hsl
      go_enter Tryz.func45, Tryz.ntmps45
      go_wp2_with fail
      refine (k1 _ D0.out.1).mono ?_
      rintro e w1 ⟨rfl, b1⟩
      have D1 := Lib.hid (D0.out.more b1)
      clear b1
      go_wp2_with fail
      refine (k2 _ D1.out.1).mono ?_
      rintro e w2 ⟨rfl, b2⟩
      have D2 := Lib.hid (D1.out.more b2)
      clear b2
      go_wp2_with fail
      refine (k3 _ D2.out.1).mono ?_
      rintro e w3 ⟨rfl, b3⟩
      have D3 := Lib.hid (D2.out.more b3)
      clear b3
      go_wp2_with fail
      refine (k4 _ D3.out.1).mono ?_
      rintro e w4 ⟨rfl, b4⟩
      have D4 := Lib.hid (D3.out.more b4)
      clear b4
      go_wp2_with fail
      refine (k5 _ D4.out.1).mono ?_
      rintro e w5 ⟨rfl, b5⟩
      have D5 := Lib.hid (D4.out.more b5)
      clear b5
      obtain ⟨⟨r0, r1, r2, r3, r4, r5⟩, f0, f1, f2, f3, f4, f5⟩ := Blk.six D5.out.2.2.1
      go_wp2
      exact bodyPost_ret (v := .tuple #[(.agg #[.int .i64 0, .string ⟨#[]⟩, .slice none 0 0, .bool false, .string ⟨#[]⟩, .int .i64 0]), .int .i64 7]) (by simp [results, Tryz.results45, go_sem, cSs, r0, r1, r2, r3, r4, r5]) rfl ⟨tokZ, _, rfl, World.ownsRow_nil _ _ _ _, Cur.set6 D5.out.1 (by omega) _ _ _ _ _ _, Keep.set6 D5.out.2.1 (by omega) _ _ _ _ _ _, fun h => absurd (show (7 : Int) = 0 from h) (by decide)⟩
    ·rw [h4] at hE k4
     rw [if_pos rfl] at hE
     subst hE
     clear h1 h2 h3 h4 hsl
     go_enter Tryz.func45, Tryz.ntmps45
     go_wp2_with fail
     refine (k1 _ D0.out.1).mono ?_
     rintro e w1 ⟨rfl, b1⟩
     have D1 := Lib.hid (D0.out.more b1)
     clear b1
     go_wp2_with fail
     refine (k2 _ D1.out.1).mono ?_
     rintro e w2 ⟨rfl, b2⟩
     have D2 := Lib.hid (D1.out.more b2)
     clear b2
     go_wp2_with fail
     refine (k3 _ D2.out.1).mono ?_
     rintro e w3 ⟨rfl, b3⟩
     have D3 := Lib.hid (D2.out.more b3)
     clear b3
     go_wp2_with fail
     refine (k4 _ D3.out.1).mono ?_
     rintro e w4 ⟨rfl, b4⟩
     have D4 := Lib.hid (D3.out.more b4)
     clear b4
     obtain ⟨⟨r0, r1, r2, r3, r4, r5⟩, f0, f1, f2, f3, f4, f5⟩ := Blk.six D4.out.2.2.1
     go_wp2
     exact bodyPost_ret (v := .tuple #[(.agg #[.int .i64 0, .string ⟨#[]⟩, .slice none 0 0, .bool false, .string ⟨#[]⟩, .int .i64 0]), .int .i64 11]) (by simp [results, Tryz.results45, go_sem, cSs, r0, r1, r2, r3, r4, r5]) rfl ⟨tokZ, _, rfl, World.ownsRow_nil _ _ _ _, Cur.set6 D4.out.1 (by omega) _ _ _ _ _ _, Keep.set6 D4.out.2.1 (by omega) _ _ _ _ _ _, fun h => absurd (show (11 : Int) = 0 from h) (by decide)⟩
   ·rw [h3] at hE k3
    rw [if_pos rfl] at hE
    have hi1 := hasP_len h3 (by decide)
    rw [hsl] at hi1
    simp only [List.length_cons, List.length_nil] at hi1
    have cS : ∀ wx, Cur wx p s i → TkT p wx → _ := fun wx h t => cur_sect p s ⟨#[60, 33, 91, 67, 68, 65, 84, 65, 91]⟩ ⟨#[93, 93, 62]⟩ i wx h (by rw [show (⟨#[60, 33, 91, 67, 68, 65, 84, 65, 91]⟩ : ByteArray).size = 9 from rfl]; omega) hs (by decide) (by decide) (by decide) t
    rw [show (⟨#[60, 33, 91, 67, 68, 65, 84, 65, 91]⟩ : ByteArray).size = 9 from rfl, show (⟨#[93, 93, 62]⟩ : ByteArray).data.toList = [93, 93, 62] from rfl, show (⟨#[93, 93, 62]⟩ : ByteArray).size = 3 from rfl] at cS
    unfold cdataP at hE
    have q0 := hC.c1
    generalize skipP s.data.toList i 9 [93, 93, 62] = sk at *
    obtain ⟨x1, x2⟩ := sk
    simp only at cS hE
    have hp1 : CP.2.1 = x1 := by rw [← hE]; split <;> rfl
    have hp2 : CP.2.2 = x2 := by
     rw [← hE]; split
     ·rfl
     ·rename_i h; simp at h; exact h.symm
    have hp3 : x2 = 0 → CP.1 = tokT (linesP ((s.data.toList.drop (i + 9)).take (x1.toNat - 3 - (i + 9)))) i := fun h => by rw [← hE, if_neg (by simpa using h)]
    have HP1 := Lib.hid hp1
    have HP2 := Lib.hid hp2
    have HP3 := Lib.hid hp3
    clear h1 h2 h3 hsl hi1 hE hp1 hp2 hp3
    go_enter Tryz.func45, Tryz.ntmps45
    go_wp2_with fail
    refine (k1 _ D0.out.1).mono ?_
    rintro e w1 ⟨rfl, b1⟩
    have D1 := Lib.hid (D0.out.more b1)
    clear b1
    go_wp2_with fail
    refine (k2 _ D1.out.1).mono ?_
    rintro e w2 ⟨rfl, b2⟩
    have D2 := Lib.hid (D1.out.more b2)
    clear b2
    go_wp2_with fail
    refine (k3 _ D2.out.1).mono ?_
    rintro e w8 ⟨rfl, b8⟩
    have D8 := Lib.hid (D2.out.more b8)
    clear b8
    have t8 := hT.keep D8.out.2.1
    have q8 := D8.out.1.c1
    go_wp2_with fail
    refine (cS _ D8.out.1 t8).mono ?_
    rintro e w9 ⟨⟨x, rfl, hxz, hxe⟩, c9, k9⟩
    have D9 := Lib.hid (D8.out.step c9 k9)
    have HX := Lib.hid hxe
    have t9 := (hT.keep D9.out.2.1).tabs
    clear c9 k9 t8 q8 hxe
    go_wp2_with fail
    refine (tok_lineEnds x _ hxz t9).mono ?_
    rintro e w10 ⟨rfl, b10⟩
    have D10 := Lib.hid (D9.out.more b10)
    clear b10 t9
    obtain ⟨⟨r0, r1, r2, r3, r4, r5⟩, f0, f1, f2, f3, f4, f5⟩ := Blk.six D10.out.2.2.1
    go_wp2
    exact bodyPost_ret (v := .tuple #[.agg #[.int .i64 3, .string ⟨#[]⟩, .slice none 0 0, .bool false, .string (oB (linesP x.data.toList)), .int .i64 (i : Int)], .int .i64 x2]) (by simp [results, Tryz.results45, go_sem, cSs, r0, r1, r2, r3, r4, r5]) rfl ⟨tokT (linesP x.data.toList) i, .slice none 0 0, (by rw [HP2.out]; rfl), World.ownsRow_nil _ _ _ _, (by rw [HP1.out]; exact Cur.set6 D10.out.1 (by omega) _ _ _ _ _ _), Keep.set6 D10.out.2.1 (by omega) _ _ _ _ _ _, fun h => .inl (by rw [HP3.out (HP2.out.symm.trans h), HX.out (HP2.out.symm.trans h), oBl])⟩
  ·rw [h2] at hE k2
   rw [if_pos rfl] at hE
   have hi1 := hasP_len h2 (by decide)
   rw [hsl] at hi1
   simp only [List.length_cons, List.length_nil] at hi1
   have cS : ∀ wx, Cur wx p s i → TkT p wx → _ := fun wx h t => cur_sect p s ⟨#[60, 33, 45, 45]⟩ ⟨#[45, 45, 62]⟩ i wx h (by rw [show (⟨#[60, 33, 45, 45]⟩ : ByteArray).size = 4 from rfl]; omega) hs (by decide) (by decide) (by decide) t
   rw [show (⟨#[60, 33, 45, 45]⟩ : ByteArray).size = 4 from rfl, show (⟨#[45, 45, 62]⟩ : ByteArray).data.toList = [45, 45, 62] from rfl] at cS
   generalize skipP s.data.toList i 4 [45, 45, 62] = sk at *
   obtain ⟨x1, x2⟩ := sk
   subst hE
   simp only at cS
   clear h1 h2 hsl hi1
   go_enter Tryz.func45, Tryz.ntmps45
   go_wp2_with fail
   refine (k1 _ D0.out.1).mono ?_
   rintro e w1 ⟨rfl, b1⟩
   have D1 := Lib.hid (D0.out.more b1)
   clear b1
   go_wp2_with fail
   refine (k2 _ D1.out.1).mono ?_
   rintro e w8 ⟨rfl, b8⟩
   have D8 := Lib.hid (D1.out.more b8)
   clear b8
   have t8 := hT.keep D8.out.2.1
   go_wp2_with fail
   refine (cS _ D8.out.1 t8).mono ?_
   rintro e w9 ⟨⟨x, rfl, _, _⟩, c9, k9⟩
   have D9 := Lib.hid (D8.out.step c9 k9)
   clear c9 k9 t8
   obtain ⟨⟨r0, r1, r2, r3, r4, r5⟩, f0, f1, f2, f3, f4, f5⟩ := Blk.six D9.out.2.2.1
   go_wp2
   exact bodyPost_ret (v := .tuple #[(.agg #[.int .i64 0, .string ⟨#[]⟩, .slice none 0 0, .bool false, .string ⟨#[]⟩, .int .i64 0]), .int .i64 x2]) (by simp [results, Tryz.results45, go_sem, cSs, r0, r1, r2, r3, r4, r5]) rfl ⟨tokZ, _, rfl, World.ownsRow_nil _ _ _ _, Cur.set6 D9.out.1 (by omega) _ _ _ _ _ _, Keep.set6 D9.out.2.1 (by omega) _ _ _ _ _ _, fun _ => .inr ⟨rfl, rfl, rfl, rfl⟩⟩
 ·rw [h1] at hE k1
  rw [if_pos rfl] at hE
  have hi1 := hasP_len h1 (by decide)
  rw [hsl] at hi1
  simp only [List.length_cons, List.length_nil] at hi1
  have cS : ∀ wx, Cur wx p s i → TkT p wx → _ := fun wx h t => cur_sect p s ⟨#[60, 63]⟩ ⟨#[63, 62]⟩ i wx h (by rw [show (⟨#[60, 63]⟩ : ByteArray).size = 2 from rfl]; omega) hs (by decide) (by decide) (by decide) t
  rw [show (⟨#[60, 63]⟩ : ByteArray).size = 2 from rfl, show (⟨#[63, 62]⟩ : ByteArray).data.toList = [63, 62] from rfl] at cS
  generalize skipP s.data.toList i 2 [63, 62] = sk at *
  obtain ⟨x1, x2⟩ := sk
  subst hE
  simp only at cS
  clear h1 hsl hi1
  go_enter Tryz.func45, Tryz.ntmps45
  go_wp2_with fail
  refine (k1 _ D0.out.1).mono ?_
  rintro e w8 ⟨rfl, b8⟩
  have D8 := Lib.hid (D0.out.more b8)
  clear b8
  have t8 := hT.keep D8.out.2.1
  go_wp2_with fail
  refine (cS _ D8.out.1 t8).mono ?_
  rintro e w9 ⟨⟨x, rfl, _, _⟩, c9, k9⟩
  have D9 := Lib.hid (D8.out.step c9 k9)
  clear c9 k9 t8
  obtain ⟨⟨r0, r1, r2, r3, r4, r5⟩, f0, f1, f2, f3, f4, f5⟩ := Blk.six D9.out.2.2.1
  go_wp2
  exact bodyPost_ret (v := .tuple #[(.agg #[.int .i64 0, .string ⟨#[]⟩, .slice none 0 0, .bool false, .string ⟨#[]⟩, .int .i64 0]), .int .i64 x2]) (by simp [results, Tryz.results45, go_sem, cSs, r0, r1, r2, r3, r4, r5]) rfl ⟨tokZ, _, rfl, World.ownsRow_nil _ _ _ _, Cur.set6 D9.out.1 (by omega) _ _ _ _ _ _, Keep.set6 D9.out.2.1 (by omega) _ _ _ _ _ _, fun _ => .inr ⟨rfl, rfl, rfl, rfl⟩⟩
end
section
open Go.RowKit
def TokKeeps (B : Nat) (w w' : World) : Prop := ∀ b, B ≤ b → b < w.heap.size → w'.heap[b]? = w.heap[b]?
def TokIsN (w0 : World) (R : List TokD × Int × Int) (e : Ending) (w' : World) : Prop := ∃ p c, e = .returned (.tuple #[.slice p R.1.length c, .int .i64 R.2.1, .int .i64 R.2.2]) ∧ (∀ w'', TokKeeps w0.heap.size w' w'' → TokensAt w'' p R.1) ∧ Below w0.heap.size w0 w'
def TokRowX (w : World) (B : Nat) (v : Value) (ps : List (TokD × Value)) : Prop := w.ownsRow B 64 6 v ps.length (toksCells ps) ∧ ∀ p ∈ ps, w.ownsRow B 56 4 p.2 p.1.al.length (aCs p.1.al)
theorem row_same {B B' : Nat} {e : TypeId} {k : Nat} {v : Value} {n : Nat} {xs : List Value} {w w' : World} (h : w.ownsRow B e k v n xs) (hB : B' ≤ B) (hk : TokKeeps B' w w') : w'.ownsRow B e k v n xs := by
 obtain ⟨h1, h2⟩ := h
 refine ⟨h1, ?_⟩
 rcases h2 with h2 | ⟨g, cap, cur, hv, hg, hh, r⟩
 ·exact .inl h2
 ·exact .inr ⟨g, cap, cur, hv, hg, (hk g (by omega) (Array.getElem?_eq_some_iff.1 hh).1).trans hh, r⟩
theorem TokRowX.keeps {w w' : World} {B' : Nat} {v : Value} {ps : List (TokD × Value)} (h : TokRowX w B' v ps) {B : Nat} (hB : B ≤ B') (hk : TokKeeps B w w') : TokRowX w' B' v ps := ⟨row_same h.1 hB hk, fun p hp => row_same (h.2 p hp) hB hk⟩
theorem tokens_of_rowX {w : World} {B : Nat} {A : Option Addr} {n c : Nat} {ps : List (TokD × Value)} (h : TokRowX w B (.slice A n c) ps) : n = ps.length ∧ TokensAt w A (ps.map Prod.fst) := by
 obtain ⟨h1, h2⟩ := h
 obtain ⟨A', c', he⟩ := own_form h1
 injection he with e1 e2 e3
 refine ⟨e2, fun i hi => ?_⟩
 rw [List.length_map] at hi
 have hc := fun g => h1.cells (g := g)
 rcases h1.2 with ⟨h0, h00⟩ | ⟨g, cap, cur, hv, _⟩
 ·omega
 ·injection hv with hA
  subst hA
  have hk : ∀ k v, k < 6 → (tokCells ps[i])[k]? = some v → w.cell? (((⟨g, 0, none⟩ : Addr).add (i * 6)).add k) = some v := by
   intro k v hk hv
   rw [addr_add2, ← addr_add]
   exact hc g rfl (i * 6 + k) v (by rw [toksCells_at ps i hi k hk]; exact hv)
  have hrow := h2 ps[i] (List.getElem_mem _)
  obtain ⟨A2, c2, ha⟩ := own_form hrow
  have g0 := hk 0 _ (by omega) rfl
  rw [addr_add2, Nat.add_zero, ← addr_add] at g0
  have g2 := hk 2 _ (by omega) rfl
  rw [ha] at hrow
  simp only [List.getElem_map]
  refine ⟨_, A2, c2, rfl, ⟨g0, hk 1 _ (by omega) rfl, ?_, hk 3 _ (by omega) rfl, hk 4 _ (by omega) rfl, hk 5 _ (by omega) rfl⟩, attrs_of_row hrow⟩
  rw [g2, ha]
theorem kinfo_tokx : (Tryz.prog.info? 64).map (fun i => (i.zero, i.size, i.bytes)) = some (some (.agg #[.int .i64 0, .string ⟨#[]⟩, .slice none 0 0, .bool false, .string ⟨#[]⟩, .int .i64 0]), 6, 80) := by kernel_rfl
theorem tokx_apart : (56 : TypeId) ≠ 64 := by decide
theorem consP_kind (s : ByteArray) (i : Nat) (h : (consP s i).2.2 = 0) : (consP s i).1.kind = 1 ∨ (consP s i).1.kind = 2 ∨ (consP s i).1.kind = 3 := by
 unfold consP at *
 split
 ·exact .inr (.inr rfl)
 ·rename_i h1
  rw [if_neg h1] at h
  split
  ·exact .inr (.inr rfl)
  ·rename_i h2
   rw [if_neg h2] at h
   split
   ·rename_i h3
    rw [if_pos h3] at h
    unfold cdataP at *
    split
    ·rename_i h4
     rw [if_pos h4] at h
     exact absurd h h4
    ·exact .inr (.inr rfl)
   ·rename_i h3
    rw [if_neg h3] at h
    split
    ·rename_i h4
     rw [if_pos h4] at h
     exact absurd (show (11 : Int) = 0 from h) (by decide)
    ·rename_i h4
     rw [if_neg h4] at h
     split
     ·rename_i h5
      rw [if_pos h5] at h
      exact absurd (show (7 : Int) = 0 from h) (by decide)
     ·split
      ·exact .inr (.inl rfl)
      ·split
       ·exact .inl rfl
       ·exact .inr (.inr rfl)
theorem cons_cases (s : ByteArray) (i : Nat) : ∀ T : TokD, (consP s i).2.2 = 0 → (T = (consP s i).1 ∨ (T.kind = 0 ∧ T.tx = [] ∧ (consP s i).1.kind = 3 ∧ (consP s i).1.tx = [])) → (T = (consP s i).1 ∧ (T.kind = 1 ∨ T.kind = 2 ∨ (T.kind = 3 ∧ T.tx ≠ []))) ∨ ((T.kind = 3 ∨ T.kind = 0) ∧ T.tx = [] ∧ (consP s i).1.kind = 3 ∧ (consP s i).1.tx = []) := by
 intro T h hor
 rcases hor with rfl | ⟨h1, h2, h3, h4⟩
 ·rcases consP_kind s i h with hk | hk | hk
  ·exact .inl ⟨rfl, .inl hk⟩
  ·exact .inl ⟨rfl, .inr (.inl hk)⟩
  ·by_cases ht : (consP s i).1.tx = []
   ·exact .inr ⟨.inl hk, ht, hk, ht⟩
   ·exact .inl ⟨rfl, .inr (.inr ⟨hk, ht⟩)⟩
 ·exact .inr ⟨.inr h1, h2, h3, h4⟩
def TV (wA wx : World) (p : Nat) (s : ByteArray) (k : Int) (v : Value) (ps : List (TokD × Value)) : Prop := (Cur wx p s k ∧ Keep p wA wx) ∧ TokRowX wx (p + 1) v ps
theorem TV.step {wA wx wy : World} {p : Nat} {s : ByteArray} {k k' : Int} {v : Value} {ps : List (TokD × Value)} (h : TV wA wx p s k v ps) (c : Cur wy p s k') (q : Keep p wx wy) : TV wA wy p s k' v ps := ⟨⟨c, h.1.2.trans q⟩, q.row h.2.1 (by omega), fun x hx => q.row (h.2.2 x hx) (by omega)⟩
theorem TV.more {wA wx wy : World} {p : Nat} {s : ByteArray} {k : Int} {v : Value} {ps : List (TokD × Value)} (h : TV wA wx p s k v ps) (b : Below wx.heap.size wx wy) : TV wA wy p s k v ps := h.step (h.1.1.keep b) (Keep.of b)
theorem TV.push {wA w4 w7 : World} {p : Nat} {s : ByteArray} {k : Int} {A A' A2 : Option Addr} {c c' c2 : Nat} {ps : List (TokD × Value)} {o1 o2 : Obj} (_hp : p < wA.heap.size) (hpA : wA.heap.size ≤ p + 1) (T : TokD) (hR : w4.ownsRow (p + 1) 56 4 (.slice A2 T.al.length c2) T.al.length (aCs T.al)) (_D4 : TV wA w4 p s k (.slice A ps.length c) ps) (D5 : TV wA (w4.alloc o1) p s k (.slice A ps.length c) ps) (hgr : ((w4.alloc o1).alloc o2).grownBy w7 (Value.slice A ps.length c).ownBlock) (hown : w7.ownsRow (p + 1) 64 6 (.slice A' (ps.length + 1) c') (ps.length + 1) (toksCells ps ++ tokCells (T, Value.slice A2 T.al.length c2))) : TV wA w7 p s k (.slice A' (ps ++ [(T, Value.slice A2 T.al.length c2)]).length c') (ps ++ [(T, Value.slice A2 T.al.length c2)]) := by
 have D6 := D5.more ((Below.refl _ _).alloc (Nat.le_refl _) o2)
 have hR6 := row_below (row_below hR ((Below.refl _ _).alloc (Nat.le_refl _) o1)) ((Below.refl _ _).alloc (Nat.le_refl _) o2)
 have hlt := fun g => D6.2.1.lt g
 refine ⟨⟨?_, D6.1.2.grown hgr (fun g hg => by have := (hlt g hg).1; omega)⟩, ?_, ?_⟩
 ·exact (hgr.block p D6.1.1.lt (fun e => by have := (hlt _ e.symm).1; omega)).trans D6.1.1
 ·rw [List.length_append, toksCells_app, show toksCells [(T, Value.slice A2 T.al.length c2)] = tokCells (T, Value.slice A2 T.al.length c2) by simp [toksCells]]
  exact hown
 ·intro q hq
  have h6 : ((w4.alloc o1).alloc o2).ownsRow (p + 1) 56 4 q.2 q.1.al.length (aCs q.1.al) := by
   rcases List.mem_append.1 hq with h | h
   ·exact D6.2.2 q h
   ·rw [List.mem_singleton.1 h]; exact hR6
  exact h6.kept hgr (rows_apart h6 D6.2.1 tokx_apart)
set_option maxHeartbeats 16000000 in
theorem tok_TokensN (s : ByteArray) (w : World) (hs' : s.size ≤ 100000) (hT : TokT w) : Calls Tryz.prog 25 #[.string s] w fun e w' => TokIsN w (toksP s) e w' := by
 obtain ⟨i0, hi0, hi1, hi3, hi4⟩ := info_parts kinfo_tokx
 have hs : s.size ≤ 1000000 := by omega
 have hsl : s.data.toList.length = s.size := by simp
 have cK : ∀ _u : Unit, _ := fun _ => text_Check s w (by unfold maxLen; omega) hT.1
 have hE : toksP s = if (chk s).2 ≠ 0 then ([], ((chk s).1 : Int), ((chk s).2 : Int)) else tokGo s (s.size + 1) (if hasP s.data.toList 0 [239, 187, 191] then 3 else 0) [] := rfl
 unfold TokIsN
 generalize toksP s = TP at *
 generalize chk s = ck at *
 obtain ⟨k1, k2⟩ := ck
 simp only at cK hE
 by_cases hk : k2 = 0
 ·rw [if_neg (by simpa using hk)] at hE
  subst hk
  rw [show ((0 : Nat) : Int) = 0 from rfl] at cK
  rcases hB : hasP s.data.toList 0 [239, 187, 191] with _ | _
  ·rw [hB] at hE
   rw [if_neg (show ¬ (false = true) by decide)] at hE
   have hq3 : 0 ≤ s.size := Nat.zero_le _
   have cN : ∀ p wx, Cur wx p s 0 → _ := fun p wx h => cur_skip_no p s ⟨#[239, 187, 191]⟩ 0 wx h (by omega) hB
   clear hB hsl
   go_enter Tryz.func25, Tryz.ntmps25
   go_wp2_with fail
   refine (cK ()).mono ?_
   rintro e w1 ⟨rfl, b1⟩
   have hC0 := Cur.new w1 s
   have hT0 : TkT w1.heap.size (w1.alloc (.cells #[.string s, .int .i64 0] 84)) := ⟨w, hT, b1.size, b1.alloc b1.size _⟩
   have hBA : Below w.heap.size w (w1.alloc (.cells #[.string s, .int .i64 0] 84)) := b1.alloc b1.size _
   have hz1 : (w1.alloc (.cells #[.string s, .int .i64 0] 84)).heap.size = w1.heap.size + 1 := by simp
   have hbs := b1.size
   have HC0 := Lib.hid hC0
   have HT0 := Lib.hid hT0
   have HBA := Lib.hid hBA
   clear hC0 hT0 hBA b1 hT cK
   go_wp2_with fail
   generalize w1.alloc (.cells #[.string s, .int .i64 0] 84) = wA at *
   generalize w1.heap.size = p at *
   refine (cN p _ HC0.out).mono ?_
   rintro e w2 ⟨rfl, b2⟩
   have D2 := Lib.hid (show TV wA w2 p s 0 (.slice none 0 0) [] from ⟨⟨HC0.out.keep b2, Keep.of b2⟩, World.ownsRow_nil _ _ _ _, fun q hq => by cases hq⟩)
   have hp2 : p < wA.heap.size := by omega
   go_wp2
   go_loopw [8] (fun v wr => ∃ (a f : Nat) (ps : List (TokD × Value)) (A : Option Addr) (c : Nat), a ≤ s.size ∧ v = .slice A ps.length c ∧ (TP = tokGo s f a (ps.map Prod.fst) ∧ s.size - a < f) ∧ ps.length ≤ a ∧ TV wA wr p s a (.slice A ps.length c) ps) (fun _ wr => s.size - (intOf ((wr.cell? ⟨p, 1, none⟩).getD (.bool false))).toNat)
   case atStart => exact ⟨0, s.size + 1, [], none, 0, hq3, rfl, ⟨hE, by omega⟩, Nat.zero_le _, D2.out⟩
   case round =>
    clear hE D2
    obtain ⟨a, f, ps, A, c, ha, rfl, ⟨hst, hf⟩, hpl, hD⟩ := hrel
    have M1 := Lib.hid hD.1.1.c1
    obtain ⟨f, rfl⟩ : ∃ g, f = g + 1 := ⟨f - 1, by omega⟩
    rw [tokGo] at hst
    have cE : ∀ wx, Cur wx p s a → _ := fun wx h => cur_ended p s a wx h
    by_cases hlt : a < s.size
    case pos =>
     rw [if_pos hlt] at hst
     rw [show ((a : Int) == (s.size : Int)) = false by rw [beq_eq_false_iff_ne]; omega] at cE
     have cC : ∀ wx, Cur wx p s a → TkT p wx → _ := fun wx h t => cur_construct p s a wx h hlt hs t
     have hok := consP_ok s a hlt
     have hcc := cons_cases s a
     generalize consP s a = cp at *
     obtain ⟨RT, x1, x2⟩ := cp
     unfold ConC at cC
     simp only at hst hok hcc cC
     go_wp2_with fail
     refine (cE _ hD.1.1).mono ?_
     rintro e w3 ⟨rfl, b3⟩
     have D3 := Lib.hid (hD.more b3)
     have t3 := HT0.out.keep D3.out.1.2
     clear b3
     go_wp2_with fail
     refine (cC _ D3.out.1.1 t3).mono ?_
     rintro e w4 ⟨⟨kd, nm, al, em, tx, at'⟩, v, rfl, hrow, c4, k4, hor⟩
     have hw3 := D3.out.1.2.size
     obtain ⟨A2, c2, rfl⟩ := own_form hrow
     simp only at hrow
     have D4 := Lib.hid (D3.out.step c4 k4)
     have HR := Lib.hid (Go.Joins.ownsRow_le hrow (show p + 1 ≤ w3.heap.size by omega))
     have D5 := Lib.hid (D4.out.more ((Below.refl _ _).alloc (Nat.le_refl _) (.cells #[.int .i64 kd, .string (oB nm), .slice A2 al.length c2, .bool em, .string (oB tx), .int .i64 at'] 64)))
     clear c4 k4 t3 hrow
     simp only [tokVal]
     by_cases hx : x2 = 0
     case neg =>
      rw [if_pos hx] at hst
      have HST := Lib.hid hst
      have hxb : (x2 != 0) = true := by simpa using hx
      have q5 := D5.out.1.1.c1
      clear hok hcc hor hst
      go_wp2
      go_quiet (fail)
      go_wp2
      exact bodyPost_ret (v := .tuple #[.slice none 0 0, .int .i64 x1, .int .i64 x2]) (by simp [results, Tryz.results25, go_sem]) rfl ⟨none, 0, (by rw [HST.out]; rfl), (fun w'' _ => by rw [HST.out]; exact fun i h => absurd h (Nat.not_lt_zero _)), below_drewN (D5.out.1.2.below HBA.out (by omega) HBA.out.size) _⟩
     case pos =>
      rw [if_neg (by simpa using hx)] at hst
      obtain ⟨z, rfl, hz2, hz3⟩ := hok hx
      have hcs := hcc _ hx (hor hx)
      subst hx
      rw [Int.toNat_natCast] at hst
      clear hok hcc hor
      rcases hcs with ⟨rfl, hk⟩ | ⟨hk, htx, hk2, htx2⟩
      ·simp only at hk hst
       have hst2 : TP = tokGo s f z (ps.map Prod.fst ++ [⟨kd, nm, al, em, tx, at'⟩]) := by
        rw [hst, if_pos]
        rcases hk with h | h | h
        ·left; rw [h]; decide
        ·left; rw [h]; decide
        ·exact .inr h.2
       have HST := Lib.hid hst2
       clear hst hst2
       have hps : ps.length ≤ 1000000 := by omega
       rcases hk with rfl | rfl | ⟨rfl, htx⟩
       ·skip
        go_wp2_with (at_builtin; refine wpList_append_own _ rfl (.tmp 47) (.tmp 49) 58 rfl (p + 1) 64 i0 (.agg #[.int .i64 0, .string ⟨#[]⟩, .slice none 0 0, .bool false, .string ⟨#[]⟩, .int .i64 0]) 6 80 Tryz.underlying58 hi0 hi1 hi3 hi4 rfl (by decide) (.slice A ps.length c) ps.length (toksCells ps) rfl (D5.out.2.1.alloc _) ⟨w4.heap.size + 1, 0, none⟩ 1 1 (tokCells (⟨1, nm, al, em, tx, at'⟩, .slice A2 al.length c2)) rfl rfl (tok_new2 _ _ _ (⟨1, nm, al, em, tx, at'⟩, .slice A2 al.length c2)) (tok_one _ _ _ _) (by unfold maxLen; omega) (by omega) (by simp; have := D4.out.1.2.size; omega) ?_; intro v' w7 hown7 hgr7 _; obtain ⟨A', c', rfl⟩ := own_form hown7)
        have D7 := TV.push hp2 (by omega) (⟨1, nm, al, em, tx, at'⟩ : TokD) HR.out D4.out D5.out hgr7 hown7
        exact ⟨⟨z, f, ps ++ [(⟨1, nm, al, em, tx, at'⟩, .slice A2 al.length c2)], A', c', hz3, by simp, ⟨by rw [HST.out, List.map_append]; rfl, by omega⟩, by simp; omega, D7⟩, by rw [D7.1.1.c1, M1.out]; simp [intOf]; omega⟩
       ·skip
        go_wp2_with (at_builtin; refine wpList_append_own _ rfl (.tmp 47) (.tmp 49) 58 rfl (p + 1) 64 i0 (.agg #[.int .i64 0, .string ⟨#[]⟩, .slice none 0 0, .bool false, .string ⟨#[]⟩, .int .i64 0]) 6 80 Tryz.underlying58 hi0 hi1 hi3 hi4 rfl (by decide) (.slice A ps.length c) ps.length (toksCells ps) rfl (D5.out.2.1.alloc _) ⟨w4.heap.size + 1, 0, none⟩ 1 1 (tokCells (⟨2, nm, al, em, tx, at'⟩, .slice A2 al.length c2)) rfl rfl (tok_new2 _ _ _ (⟨2, nm, al, em, tx, at'⟩, .slice A2 al.length c2)) (tok_one _ _ _ _) (by unfold maxLen; omega) (by omega) (by simp; have := D4.out.1.2.size; omega) ?_; intro v' w7 hown7 hgr7 _; obtain ⟨A', c', rfl⟩ := own_form hown7)
        have D7 := TV.push hp2 (by omega) (⟨2, nm, al, em, tx, at'⟩ : TokD) HR.out D4.out D5.out hgr7 hown7
        exact ⟨⟨z, f, ps ++ [(⟨2, nm, al, em, tx, at'⟩, .slice A2 al.length c2)], A', c', hz3, by simp, ⟨by rw [HST.out, List.map_append]; rfl, by omega⟩, by simp; omega, D7⟩, by rw [D7.1.1.c1, M1.out]; simp [intOf]; omega⟩
       ·obtain ⟨u1, u2⟩ := empty_no htx
        go_wp2_with (at_builtin; refine wpList_append_own _ rfl (.tmp 47) (.tmp 49) 58 rfl (p + 1) 64 i0 (.agg #[.int .i64 0, .string ⟨#[]⟩, .slice none 0 0, .bool false, .string ⟨#[]⟩, .int .i64 0]) 6 80 Tryz.underlying58 hi0 hi1 hi3 hi4 rfl (by decide) (.slice A ps.length c) ps.length (toksCells ps) rfl (D5.out.2.1.alloc _) ⟨w4.heap.size + 1, 0, none⟩ 1 1 (tokCells (⟨3, nm, al, em, tx, at'⟩, .slice A2 al.length c2)) rfl rfl (tok_new2 _ _ _ (⟨3, nm, al, em, tx, at'⟩, .slice A2 al.length c2)) (tok_one _ _ _ _) (by unfold maxLen; omega) (by omega) (by simp; have := D4.out.1.2.size; omega) ?_; intro v' w7 hown7 hgr7 _; obtain ⟨A', c', rfl⟩ := own_form hown7)
        have D7 := TV.push hp2 (by omega) (⟨3, nm, al, em, tx, at'⟩ : TokD) HR.out D4.out D5.out hgr7 hown7
        exact ⟨⟨z, f, ps ++ [(⟨3, nm, al, em, tx, at'⟩, .slice A2 al.length c2)], A', c', hz3, by simp, ⟨by rw [HST.out, List.map_append]; rfl, by omega⟩, by simp; omega, D7⟩, by rw [D7.1.1.c1, M1.out]; simp [intOf]; omega⟩
      ·simp only at hk htx
       rw [if_neg (by rintro (h | h) <;> contradiction)] at hst
       have HST := Lib.hid hst
       subst htx
       have u1 : (oB ([] : List UInt8)).toList.isEmpty = true := by rw [ByteArray.toList_eq, oBl]; rfl
       have u2 : (oB ([] : List UInt8)).toList = [] := by rw [ByteArray.toList_eq, oBl]
       clear hst hk2 htx2
       rcases hk with rfl | rfl
       ·skip
        go_wp2
        go_roundw
        case rel => exact ⟨z, f, ps, A, c, hz3, rfl, ⟨HST.out, by omega⟩, by omega, D5.out⟩
        case measure => rw [D5.out.1.1.c1, M1.out]; simp [intOf]; omega
       ·skip
        go_wp2
        go_roundw
        case rel => exact ⟨z, f, ps, A, c, hz3, rfl, ⟨HST.out, by omega⟩, by omega, D5.out⟩
        case measure => rw [D5.out.1.1.c1, M1.out]; simp [intOf]; omega
    case neg =>
     obtain rfl : a = s.size := by omega
     rw [if_neg hlt] at hst
     have HST := Lib.hid hst
     rw [show ((s.size : Int) == (s.size : Int)) = true by simp] at cE
     clear hst
     go_wp2_with fail
     refine (cE _ hD.1.1).mono ?_
     rintro e w3 ⟨rfl, b3⟩
     have D3 := Lib.hid (hD.more b3)
     have q5 := D3.out.1.1.c1
     clear b3
     go_wp2
     go_quiet (fail)
     go_wp2
     exact bodyPost_ret (v := .tuple #[.slice A ps.length c, .int .i64 s.size, .int .i64 0]) (by simp [results, Tryz.results25, go_sem]) rfl ⟨A, c, (by rw [HST.out]; simp only [List.length_map]), (fun w'' hk => by rw [HST.out]; exact (tokens_of_rowX (TokRowX.keeps D3.out.2 (B := w.heap.size) (by omega) hk)).2), below_drewN (D3.out.1.2.below HBA.out (by omega) HBA.out.size) _⟩
  ·rw [hB] at hE
   rw [if_pos (show true = true from rfl)] at hE
   have hq3 : 3 ≤ s.size := by
    have := hasP_len (i := 0) hB (by decide)
    rw [hsl] at this
    simpa using this
   have cY : ∀ p wx, Cur wx p s 0 → _ := fun p wx h => cur_skip_yes p s ⟨#[239, 187, 191]⟩ 0 wx h (by omega) hs (by decide) hB
   clear hB hsl
   go_enter Tryz.func25, Tryz.ntmps25
   go_wp2_with fail
   refine (cK ()).mono ?_
   rintro e w1 ⟨rfl, b1⟩
   have hC0 := Cur.new w1 s
   have hT0 : TkT w1.heap.size (w1.alloc (.cells #[.string s, .int .i64 0] 84)) := ⟨w, hT, b1.size, b1.alloc b1.size _⟩
   have hBA : Below w.heap.size w (w1.alloc (.cells #[.string s, .int .i64 0] 84)) := b1.alloc b1.size _
   have hz1 : (w1.alloc (.cells #[.string s, .int .i64 0] 84)).heap.size = w1.heap.size + 1 := by simp
   have hbs := b1.size
   have HC0 := Lib.hid hC0
   have HT0 := Lib.hid hT0
   have HBA := Lib.hid hBA
   clear hC0 hT0 hBA b1 hT cK
   go_wp2_with fail
   generalize w1.alloc (.cells #[.string s, .int .i64 0] 84) = wA at *
   generalize w1.heap.size = p at *
   refine (cY p _ HC0.out).mono ?_
   rintro e w2 ⟨rfl, c2, k2⟩
   have D2 := Lib.hid (show TV wA w2 p s 3 (.slice none 0 0) [] from ⟨⟨c2, k2⟩, World.ownsRow_nil _ _ _ _, fun q hq => by cases hq⟩)
   have hp2 : p < wA.heap.size := by omega
   go_wp2
   go_loopw [8] (fun v wr => ∃ (a f : Nat) (ps : List (TokD × Value)) (A : Option Addr) (c : Nat), a ≤ s.size ∧ v = .slice A ps.length c ∧ (TP = tokGo s f a (ps.map Prod.fst) ∧ s.size - a < f) ∧ ps.length ≤ a ∧ TV wA wr p s a (.slice A ps.length c) ps) (fun _ wr => s.size - (intOf ((wr.cell? ⟨p, 1, none⟩).getD (.bool false))).toNat)
   case atStart => exact ⟨3, s.size + 1, [], none, 0, hq3, rfl, ⟨hE, by omega⟩, Nat.zero_le _, D2.out⟩
   case round =>
    clear hE D2
    obtain ⟨a, f, ps, A, c, ha, rfl, ⟨hst, hf⟩, hpl, hD⟩ := hrel
    have M1 := Lib.hid hD.1.1.c1
    obtain ⟨f, rfl⟩ : ∃ g, f = g + 1 := ⟨f - 1, by omega⟩
    rw [tokGo] at hst
    have cE : ∀ wx, Cur wx p s a → _ := fun wx h => cur_ended p s a wx h
    by_cases hlt : a < s.size
    case pos =>
     rw [if_pos hlt] at hst
     rw [show ((a : Int) == (s.size : Int)) = false by rw [beq_eq_false_iff_ne]; omega] at cE
     have cC : ∀ wx, Cur wx p s a → TkT p wx → _ := fun wx h t => cur_construct p s a wx h hlt hs t
     have hok := consP_ok s a hlt
     have hcc := cons_cases s a
     generalize consP s a = cp at *
     obtain ⟨RT, x1, x2⟩ := cp
     unfold ConC at cC
     simp only at hst hok hcc cC
     go_wp2_with fail
     refine (cE _ hD.1.1).mono ?_
     rintro e w3 ⟨rfl, b3⟩
     have D3 := Lib.hid (hD.more b3)
     have t3 := HT0.out.keep D3.out.1.2
     clear b3
     go_wp2_with fail
     refine (cC _ D3.out.1.1 t3).mono ?_
     rintro e w4 ⟨⟨kd, nm, al, em, tx, at'⟩, v, rfl, hrow, c4, k4, hor⟩
     have hw3 := D3.out.1.2.size
     obtain ⟨A2, c2, rfl⟩ := own_form hrow
     simp only at hrow
     have D4 := Lib.hid (D3.out.step c4 k4)
     have HR := Lib.hid (Go.Joins.ownsRow_le hrow (show p + 1 ≤ w3.heap.size by omega))
     have D5 := Lib.hid (D4.out.more ((Below.refl _ _).alloc (Nat.le_refl _) (.cells #[.int .i64 kd, .string (oB nm), .slice A2 al.length c2, .bool em, .string (oB tx), .int .i64 at'] 64)))
     clear c4 k4 t3 hrow
     simp only [tokVal]
     by_cases hx : x2 = 0
     case neg =>
      rw [if_pos hx] at hst
      have HST := Lib.hid hst
      have hxb : (x2 != 0) = true := by simpa using hx
      have q5 := D5.out.1.1.c1
      clear hok hcc hor hst
      go_wp2
      go_quiet (fail)
      go_wp2
      exact bodyPost_ret (v := .tuple #[.slice none 0 0, .int .i64 x1, .int .i64 x2]) (by simp [results, Tryz.results25, go_sem]) rfl ⟨none, 0, (by rw [HST.out]; rfl), (fun w'' _ => by rw [HST.out]; exact fun i h => absurd h (Nat.not_lt_zero _)), below_drewN (D5.out.1.2.below HBA.out (by omega) HBA.out.size) _⟩
     case pos =>
      rw [if_neg (by simpa using hx)] at hst
      obtain ⟨z, rfl, hz2, hz3⟩ := hok hx
      have hcs := hcc _ hx (hor hx)
      subst hx
      rw [Int.toNat_natCast] at hst
      clear hok hcc hor
      rcases hcs with ⟨rfl, hk⟩ | ⟨hk, htx, hk2, htx2⟩
      ·simp only at hk hst
       have hst2 : TP = tokGo s f z (ps.map Prod.fst ++ [⟨kd, nm, al, em, tx, at'⟩]) := by
        rw [hst, if_pos]
        rcases hk with h | h | h
        ·left; rw [h]; decide
        ·left; rw [h]; decide
        ·exact .inr h.2
       have HST := Lib.hid hst2
       clear hst hst2
       have hps : ps.length ≤ 1000000 := by omega
       rcases hk with rfl | rfl | ⟨rfl, htx⟩
       ·skip
        go_wp2_with (at_builtin; refine wpList_append_own _ rfl (.tmp 47) (.tmp 49) 58 rfl (p + 1) 64 i0 (.agg #[.int .i64 0, .string ⟨#[]⟩, .slice none 0 0, .bool false, .string ⟨#[]⟩, .int .i64 0]) 6 80 Tryz.underlying58 hi0 hi1 hi3 hi4 rfl (by decide) (.slice A ps.length c) ps.length (toksCells ps) rfl (D5.out.2.1.alloc _) ⟨w4.heap.size + 1, 0, none⟩ 1 1 (tokCells (⟨1, nm, al, em, tx, at'⟩, .slice A2 al.length c2)) rfl rfl (tok_new2 _ _ _ (⟨1, nm, al, em, tx, at'⟩, .slice A2 al.length c2)) (tok_one _ _ _ _) (by unfold maxLen; omega) (by omega) (by simp; have := D4.out.1.2.size; omega) ?_; intro v' w7 hown7 hgr7 _; obtain ⟨A', c', rfl⟩ := own_form hown7)
        have D7 := TV.push hp2 (by omega) (⟨1, nm, al, em, tx, at'⟩ : TokD) HR.out D4.out D5.out hgr7 hown7
        exact ⟨⟨z, f, ps ++ [(⟨1, nm, al, em, tx, at'⟩, .slice A2 al.length c2)], A', c', hz3, by simp, ⟨by rw [HST.out, List.map_append]; rfl, by omega⟩, by simp; omega, D7⟩, by rw [D7.1.1.c1, M1.out]; simp [intOf]; omega⟩
       ·skip
        go_wp2_with (at_builtin; refine wpList_append_own _ rfl (.tmp 47) (.tmp 49) 58 rfl (p + 1) 64 i0 (.agg #[.int .i64 0, .string ⟨#[]⟩, .slice none 0 0, .bool false, .string ⟨#[]⟩, .int .i64 0]) 6 80 Tryz.underlying58 hi0 hi1 hi3 hi4 rfl (by decide) (.slice A ps.length c) ps.length (toksCells ps) rfl (D5.out.2.1.alloc _) ⟨w4.heap.size + 1, 0, none⟩ 1 1 (tokCells (⟨2, nm, al, em, tx, at'⟩, .slice A2 al.length c2)) rfl rfl (tok_new2 _ _ _ (⟨2, nm, al, em, tx, at'⟩, .slice A2 al.length c2)) (tok_one _ _ _ _) (by unfold maxLen; omega) (by omega) (by simp; have := D4.out.1.2.size; omega) ?_; intro v' w7 hown7 hgr7 _; obtain ⟨A', c', rfl⟩ := own_form hown7)
        have D7 := TV.push hp2 (by omega) (⟨2, nm, al, em, tx, at'⟩ : TokD) HR.out D4.out D5.out hgr7 hown7
        exact ⟨⟨z, f, ps ++ [(⟨2, nm, al, em, tx, at'⟩, .slice A2 al.length c2)], A', c', hz3, by simp, ⟨by rw [HST.out, List.map_append]; rfl, by omega⟩, by simp; omega, D7⟩, by rw [D7.1.1.c1, M1.out]; simp [intOf]; omega⟩
       ·obtain ⟨u1, u2⟩ := empty_no htx
        go_wp2_with (at_builtin; refine wpList_append_own _ rfl (.tmp 47) (.tmp 49) 58 rfl (p + 1) 64 i0 (.agg #[.int .i64 0, .string ⟨#[]⟩, .slice none 0 0, .bool false, .string ⟨#[]⟩, .int .i64 0]) 6 80 Tryz.underlying58 hi0 hi1 hi3 hi4 rfl (by decide) (.slice A ps.length c) ps.length (toksCells ps) rfl (D5.out.2.1.alloc _) ⟨w4.heap.size + 1, 0, none⟩ 1 1 (tokCells (⟨3, nm, al, em, tx, at'⟩, .slice A2 al.length c2)) rfl rfl (tok_new2 _ _ _ (⟨3, nm, al, em, tx, at'⟩, .slice A2 al.length c2)) (tok_one _ _ _ _) (by unfold maxLen; omega) (by omega) (by simp; have := D4.out.1.2.size; omega) ?_; intro v' w7 hown7 hgr7 _; obtain ⟨A', c', rfl⟩ := own_form hown7)
        have D7 := TV.push hp2 (by omega) (⟨3, nm, al, em, tx, at'⟩ : TokD) HR.out D4.out D5.out hgr7 hown7
        exact ⟨⟨z, f, ps ++ [(⟨3, nm, al, em, tx, at'⟩, .slice A2 al.length c2)], A', c', hz3, by simp, ⟨by rw [HST.out, List.map_append]; rfl, by omega⟩, by simp; omega, D7⟩, by rw [D7.1.1.c1, M1.out]; simp [intOf]; omega⟩
      ·simp only at hk htx
       rw [if_neg (by rintro (h | h) <;> contradiction)] at hst
       have HST := Lib.hid hst
       subst htx
       have u1 : (oB ([] : List UInt8)).toList.isEmpty = true := by rw [ByteArray.toList_eq, oBl]; rfl
       have u2 : (oB ([] : List UInt8)).toList = [] := by rw [ByteArray.toList_eq, oBl]
       clear hst hk2 htx2
       rcases hk with rfl | rfl
       ·skip
        go_wp2
        go_roundw
        case rel => exact ⟨z, f, ps, A, c, hz3, rfl, ⟨HST.out, by omega⟩, by omega, D5.out⟩
        case measure => rw [D5.out.1.1.c1, M1.out]; simp [intOf]; omega
       ·skip
        go_wp2
        go_roundw
        case rel => exact ⟨z, f, ps, A, c, hz3, rfl, ⟨HST.out, by omega⟩, by omega, D5.out⟩
        case measure => rw [D5.out.1.1.c1, M1.out]; simp [intOf]; omega
    case neg =>
     obtain rfl : a = s.size := by omega
     rw [if_neg hlt] at hst
     have HST := Lib.hid hst
     rw [show ((s.size : Int) == (s.size : Int)) = true by simp] at cE
     clear hst
     go_wp2_with fail
     refine (cE _ hD.1.1).mono ?_
     rintro e w3 ⟨rfl, b3⟩
     have D3 := Lib.hid (hD.more b3)
     have q5 := D3.out.1.1.c1
     clear b3
     go_wp2
     go_quiet (fail)
     go_wp2
     exact bodyPost_ret (v := .tuple #[.slice A ps.length c, .int .i64 s.size, .int .i64 0]) (by simp [results, Tryz.results25, go_sem]) rfl ⟨A, c, (by rw [HST.out]; simp only [List.length_map]), (fun w'' hk => by rw [HST.out]; exact (tokens_of_rowX (TokRowX.keeps D3.out.2 (B := w.heap.size) (by omega) hk)).2), below_drewN (D3.out.1.2.below HBA.out (by omega) HBA.out.size) _⟩
 ·rw [if_pos hk] at hE
  have hkb : ((k2 : Int) != 0) = true := by simpa using hk
  subst hE
  go_enter Tryz.func25, Tryz.ntmps25
  go_wp2_with fail
  refine (cK ()).mono ?_
  rintro e w1 ⟨rfl, b1⟩
  go_wp2
  exact bodyPost_ret (v := .tuple #[.slice none 0 0, .int .i64 k1, .int .i64 k2]) (by simp [results, Tryz.results25, go_sem]) rfl ⟨none, 0, rfl, fun _ _ i h => absurd h (Nat.not_lt_zero _), b1⟩
end
section
open Go.RowKit
end
end
section
open Go.RowKit
theorem startGo_len (s : ByteArray) (i : Nat) (N : List UInt8) : ∀ f a acc, s.size - a < f → a ≤ s.size → acc.length ≤ a → (startGo s i N f a acc).al.length ≤ s.size
 | 0, a, acc, hf, _, _ => absurd hf (by omega)
 | f + 1, a, acc, hf, ha, hl => by
  have hsl : s.data.toList.length = s.size := by simp
  rw [startGo]
  have hk := spP_le s.data.toList a (by omega)
  rw [hsl] at hk
  generalize spP s.data.toList a = m at *
  split
  ·simp only; omega
  ·split
   ·simp only; omega
   ·split
    ·simp only; omega
    ·split
     ·simp only; omega
     ·split
      ·simp only; omega
      ·rename_i h5
       obtain ⟨z, hz, hz1, hz2⟩ := attrP_ok s i m (by omega) (by simpa using h5)
       split
       ·simp only; omega
       ·rw [hz, Int.toNat_natCast]
        exact startGo_len s i N f z _ (by omega) hz2 (by rw [List.length_append, List.length_singleton]; omega)
theorem consP_len (s : ByteArray) (i : Nat) : (consP s i).1.al.length ≤ s.size := by
 have hsl : s.data.toList.length = s.size := by simp
 unfold consP
 split
 ·exact Nat.zero_le _
 ·split
  ·exact Nat.zero_le _
  ·split
   ·unfold cdataP
    split <;> exact Nat.zero_le _
   ·split
    ·exact Nat.zero_le _
    ·split
     ·exact Nat.zero_le _
     ·split
      ·exact Nat.zero_le _
      ·split
       ·rename_i h7
        have hl := hasP_len h7 (by decide)
        rw [hsl] at hl
        simp only
        unfold startP
        have hb := nmP_le s (i + 1) hl
        split
        ·exact Nat.zero_le _
        ·exact startGo_len s i _ _ _ _ (by omega) hb.2 (Nat.zero_le _)
       ·exact Nat.zero_le _
def Small (n : Nat) (l : List TokD) : Prop := l.length ≤ n ∧ ∀ t ∈ l, t.al.length ≤ n
theorem tokGo_small (s : ByteArray) : ∀ f a acc, s.size - a < f → a ≤ s.size → acc.length ≤ a → (∀ t ∈ acc, t.al.length ≤ s.size) → Small s.size (tokGo s f a acc).1
 | 0, a, acc, hf, _, _, _ => absurd hf (by omega)
 | f + 1, a, acc, hf, ha, hl, ht => by
  rw [tokGo]
  split
  ·rename_i h1
   split
   ·exact ⟨Nat.zero_le _, fun t h => by cases h⟩
   ·rename_i h2
    have h0 : (consP s a).2.2 = 0 := by simpa using h2
    obtain ⟨z, hz, hz1, hz2⟩ := consP_ok s a h1 h0
    rw [hz, Int.toNat_natCast]
    refine tokGo_small s f z _ (by omega) hz2 ?_ ?_
    ·split
     ·rw [List.length_append, List.length_singleton]; omega
     ·omega
    ·split
     ·intro t h
      rcases List.mem_append.1 h with h | h
      ·exact ht t h
      ·rw [List.mem_singleton.1 h]; exact consP_len s a
     ·exact ht
  ·exact ⟨by simp only; omega, ht⟩
theorem toksP_small (s : ByteArray) : Small s.size (toksP s).1 := by
 have hsl : s.data.toList.length = s.size := by simp
 unfold toksP
 split
 ·exact ⟨Nat.zero_le _, fun t h => by cases h⟩
 ·refine tokGo_small s _ _ _ (by split <;> omega) ?_ (Nat.zero_le _) (fun t h => by cases h)
  split
  ·rename_i h
   have := hasP_len (i := 0) h (by decide)
   rw [hsl] at this
   simpa using this
  ·omega
end
end Go.Proofs.YtppmoeidgefkpaaGreatDoor
