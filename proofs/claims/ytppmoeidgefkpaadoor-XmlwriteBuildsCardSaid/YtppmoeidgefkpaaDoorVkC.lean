/- Packed from the texts Keep EscF EscG TokB TokD EscV TagA. -/
import Derived.Test.YtppmoeidgefkpaaDoorVBldr
import Derived.Test.YtppmoeidgefkpaaDoorVEscC
import Derived.Test.YtppmoeidgefkpaaDoorVKit
import Derived.Test.YtppmoeidgefkpaaDoorVShelf
import Derived.Test.YtppmoeidgefkpaaDoorVStrK
import Derived.Test.YtppmoeidgefkpaaDoorVTextF
import Derived.Test.YtppmoeidgefkpaaDoorVkB
import Derived.Lib.OthersKept
import Derived.Laws.RangeAny
import Derived.WalkKit
import Derived.Deep.QuietTactic
import Derived.BigQuiet
import Derived.WalkSmall
import Derived.Lib.ReplaceLaws
import Derived.Lib.IndexAny
import Derived.Deep.RegionWith
import Derived.Deep.RegionHeld3
import Derived.Test.YtppmoeidgefkpaaDoorChecked
import Derived.Lib.Small
import Derived.WalkMore
import Derived.Lib.DecodeN
import Derived.Laws.Runes
import Derived.Maps.Own
import Derived.Maps.Views
import Derived.OwnWalk
import Derived.Deep.DeepCutAuto
section
namespace Go.Proofs.YtppmoeidgefkpaaDoor
open Go.RowKit
structure Keep (p : Nat) (w w' : World) : Prop where
  os : w'.os = w.os
  tape : w'.tape = w.tape
  output : w'.output = w.output
  size : w.heap.size ≤ w'.heap.size
  block : ∀ k, k < w.heap.size → k ≠ p → w'.heap[k]? = w.heap[k]?
theorem Keep.refl (p : Nat) (w : World) : Keep p w w := ⟨rfl, rfl, rfl, Nat.le_refl _, fun _ _ _ => rfl⟩
theorem Keep.trans {p : Nat} {a b c : World} (h : Keep p a b) (k : Keep p b c) : Keep p a c :=
  ⟨k.os.trans h.os, k.tape.trans h.tape, k.output.trans h.output, Nat.le_trans h.size k.size, fun i hi hp => (k.block i (Nat.lt_of_lt_of_le hi h.size) hp).trans (h.block i hi hp)⟩
theorem Keep.of {p : Nat} {w w' : World} (h : Below w.heap.size w w') : Keep p w w' := ⟨h.os, h.tape, h.output, h.size, fun k hk _ => h.block k hk⟩
theorem Keep.more {p : Nat} {a b c : World} (h : Keep p a b) (k : Below b.heap.size b c) : Keep p a c := h.trans (Keep.of k)
theorem Keep.set {p : Nat} {a w : World} (h : Keep p a w) (o : Nat) (u : Value) : Keep p a (w.setCell ⟨p, o, none⟩ u) :=
  h.trans ⟨rfl, rfl, rfl, by simp [World.setCell], fun k _ hp => Below.heap_setCell _ _ _ _ hp⟩
theorem Keep.alloc {p : Nat} {a w : World} (h : Keep p a w) (o : Obj) : Keep p a (w.alloc o) := h.more ((Below.refl _ _).alloc (Nat.le_refl _) o)
theorem Keep.drew {p : Nat} {a w : World} (h : Keep p a w) : Keep p a w.drew := h.trans ⟨rfl, rfl, rfl, Nat.le_refl _, fun _ _ _ => rfl⟩
theorem Keep.own {p : Nat} {a w : World} (h : Keep p a w) {q : Addr} (hq : a.heap.size ≤ q.block) (u : Value) : Keep p a (w.setCell q u) :=
  ⟨h.os, h.tape, h.output, by have := h.size; simp [World.setCell]; exact this, fun k hk hp => (Below.heap_setCell _ _ _ _ (by omega)).trans (h.block k hk hp)⟩
theorem Keep.grown {p : Nat} {a w w' : World} {row : Option Nat} (h : Keep p a w) (hg : w.grownBy w' row) (hr : ∀ k, row = some k → a.heap.size ≤ k) : Keep p a w' :=
  ⟨hg.os.trans h.os, hg.tape.trans h.tape, hg.output.trans h.output, Nat.le_trans h.size hg.size, fun k hk hp => (hg.block k (Nat.lt_of_lt_of_le hk h.size) (fun e => by have := hr k e.symm; omega)).trans (h.block k hk hp)⟩
theorem Keep.below {B p : Nat} {a w w' : World} (h : Keep p w w') (hb : Below B a w) (hp : B ≤ p) (hB : B ≤ w.heap.size) : Below B a w' :=
  hb.trans ⟨h.os, h.tape, h.output, h.size, fun k hk => h.block k (by omega) (by omega)⟩
theorem Keep.cell {p : Nat} {w w' : World} (h : Keep p w w') {a : Addr} (ha : a.block < w.heap.size) (hp : a.block ≠ p) : w'.cell? a = w.cell? a := World.cell?_of_block (w := w) (h.block _ ha hp)
theorem Keep.row {p B : Nat} {e : TypeId} {k n : Nat} {v : Value} {xs : List Value} {w w' : World} (h : Keep p w w') (hr : w.ownsRow B e k v n xs) (hp : p < B) : w'.ownsRow B e k v n xs := by
  obtain ⟨h1, h2⟩ := hr
  refine ⟨h1, ?_⟩
  rcases h2 with h2 | ⟨g, cap, cur, hv, hg, hh, r⟩
  · exact .inl h2
  · exact .inr ⟨g, cap, cur, hv, hg, (h.block g (Array.getElem?_eq_some_iff.1 hh).1 (by omega)).trans hh, r⟩
def Blk (w : World) (b : Nat) (cs : Array Value) (T : TypeId) : Prop := w.heap[b]? = some (.cells cs T (0, 0))
theorem Blk.lt {w : World} {b : Nat} {cs : Array Value} {T : TypeId} (h : Blk w b cs T) : b < w.heap.size := (Array.getElem?_eq_some_iff.1 h).1
theorem Blk.cell {w : World} {b : Nat} {cs : Array Value} {T : TypeId} (h : Blk w b cs T) (o : Nat) : w.cell? ⟨b, o, none⟩ = cs[o]? := cell_of_row w b o _ _ _ h
theorem Blk.fr {w : World} {b : Nat} {cs : Array Value} {T : TypeId} (h : Blk w b cs T) (o : Nat) : w.frozen? ⟨b, o, none⟩ = false := frozen_of_row w b o _ _ h
theorem Blk.keep {w w' : World} {b p : Nat} {cs : Array Value} {T : TypeId} (h : Blk w b cs T) (k : Keep p w w') (hb : b ≠ p) : Blk w' b cs T := (k.block b h.lt hb).trans h
theorem Blk.more {w w' : World} {b : Nat} {cs : Array Value} {T : TypeId} (h : Blk w b cs T) (k : Below w.heap.size w w') : Blk w' b cs T := (k.block b h.lt).trans h
theorem Blk.own {w : World} {b : Nat} {cs : Array Value} {T : TypeId} (h : Blk w b cs T) {q : Addr} (hq : q.block ≠ b) (u : Value) : Blk (w.setCell q u) b cs T := (Below.heap_setCell w q u b (fun e => hq e.symm)).trans h
theorem Blk.new (w : World) (cs : Array Value) (T : TypeId) : Blk (w.alloc (.cells cs T)) w.heap.size cs T := heap_alloc_new w _
end Go.Proofs.YtppmoeidgefkpaaDoor
end
section
namespace Go.Proofs.YtppmoeidgefkpaaDoor
open Go.RowKit
def repB (attr : Bool) (c : UInt8) : List UInt8 :=
  if attr && c.toNat == 34 then [38, 113, 117, 111, 116, 59] else if attr && c.toNat == 9 then [38, 35, 57, 59] else if attr && c.toNat == 10 then [38, 35, 49, 48, 59]
  else if c.toNat = 38 then [38, 97, 109, 112, 59] else if c.toNat = 60 then [38, 108, 116, 59] else if c.toNat = 62 then [38, 103, 116, 59] else if c.toNat = 13 then [38, 35, 49, 51, 59] else []
set_option maxRecDepth 100000 in
theorem esc_rep_all : ∀ (attr : Bool) (n : Fin 256), escB attr (UInt8.ofNat n.val) = if repB attr (UInt8.ofNat n.val) = [] then [UInt8.ofNat n.val] else repB attr (UInt8.ofNat n.val) := by decide
theorem esc_rep (attr : Bool) (c : UInt8) : escB attr c = if repB attr c = [] then [c] else repB attr c := by
  have := esc_rep_all attr ⟨c.toNat, c.toNat_lt⟩
  simpa using this
theorem repB_len (attr : Bool) (c : UInt8) : (repB attr c).length ≤ 6 := by
  unfold repB
  repeat' split
  all_goals simp
end Go.Proofs.YtppmoeidgefkpaaDoor
end
section
namespace Go.Proofs.YtppmoeidgefkpaaDoor
open Go.RowKit
theorem eretS {a b : ByteArray} (h : a = b) : Ending.returned (.string a) = .returned (.string b) := by rw [h]
theorem repB_f (c : UInt8) : repB false c = if c.toNat = 38 then [38, 97, 109, 112, 59] else if c.toNat = 60 then [38, 108, 116, 59] else if c.toNat = 62 then [38, 103, 116, 59] else if c.toNat = 13 then [38, 35, 49, 51, 59] else [] := rfl
theorem repB_t (c : UInt8) : repB true c = if c.toNat = 34 then [38, 113, 117, 111, 116, 59] else if c.toNat = 9 then [38, 35, 57, 59] else if c.toNat = 10 then [38, 35, 49, 48, 59] else repB false c := by
  unfold repB
  simp
set_option maxRecDepth 100000 in
set_option maxHeartbeats 4000000 in
theorem esc_inText (x : UInt8) (w : World) :
    Calls Tryd.prog 33 #[.int .u8 (x.toNat : Int)] w fun e w' => e = .returned (.string (ofBytes (repB false x))) ∧ w = w' := by
  have hr := repB_f x
  obtain ⟨z, hz⟩ : ∃ z : Int, (x.toNat : Int) = z := ⟨_, rfl⟩
  rw [hz]
  rcases (by omega : z = 38 ∨ z = 60 ∨ z = 62 ∨ z = 13 ∨ (z ≠ 38 ∧ z ≠ 60 ∧ z ≠ 62 ∧ z ≠ 13)) with rfl | rfl | rfl | rfl | ⟨n1, n2, n3, n4⟩
  · rw [if_pos (by omega)] at hr
    have HR := Lib.hid hr
    clear hr hz
    go_enter Tryd.func33, Tryd.ntmps33
    go_wp2
    go_ret
    exact ⟨eretS (by rw [HR.out]; rfl), rfl⟩
  · rw [if_neg (by omega), if_pos (by omega)] at hr
    have HR := Lib.hid hr
    clear hr hz
    go_enter Tryd.func33, Tryd.ntmps33
    go_wp2
    go_ret
    exact ⟨eretS (by rw [HR.out]; rfl), rfl⟩
  · rw [if_neg (by omega), if_neg (by omega), if_pos (by omega)] at hr
    have HR := Lib.hid hr
    clear hr hz
    go_enter Tryd.func33, Tryd.ntmps33
    go_wp2
    go_ret
    exact ⟨eretS (by rw [HR.out]; rfl), rfl⟩
  · rw [if_neg (by omega), if_neg (by omega), if_neg (by omega), if_pos (by omega)] at hr
    have HR := Lib.hid hr
    clear hr hz
    go_enter Tryd.func33, Tryd.ntmps33
    go_wp2
    go_ret
    exact ⟨eretS (by rw [HR.out]; rfl), rfl⟩
  · rw [if_neg (by omega), if_neg (by omega), if_neg (by omega), if_neg (by omega)] at hr
    have HR := Lib.hid hr
    have q1 : (z == 38) = false := by simpa using n1
    have q2 : (z == 60) = false := by simpa using n2
    have q3 : (z == 62) = false := by simpa using n3
    have q4 : (z == 13) = false := by simpa using n4
    clear hr hz n1 n2 n3 n4
    go_enter Tryd.func33, Tryd.ntmps33
    go_wp2
    go_ret
    exact ⟨eretS (by rw [HR.out]; rfl), rfl⟩
set_option maxRecDepth 100000 in
set_option maxHeartbeats 4000000 in
theorem esc_inAttr (x : UInt8) (w : World) :
    Calls Tryd.prog 34 #[.int .u8 (x.toNat : Int)] w fun e w' => e = .returned (.string (ofBytes (repB true x))) ∧ w = w' := by
  have hr := repB_t x
  have c1 : ∀ wx, _ := fun wx => esc_inText x wx
  obtain ⟨z, hz⟩ : ∃ z : Int, (x.toNat : Int) = z := ⟨_, rfl⟩
  rw [hz] at c1 ⊢
  rcases (by omega : z = 34 ∨ z = 9 ∨ z = 10 ∨ (z ≠ 34 ∧ z ≠ 9 ∧ z ≠ 10)) with rfl | rfl | rfl | ⟨n1, n2, n3⟩
  · rw [if_pos (by omega)] at hr
    have HR := Lib.hid hr
    clear hr hz c1
    go_enter Tryd.func34, Tryd.ntmps34
    go_wp2
    go_ret
    exact ⟨eretS (by rw [HR.out]; rfl), rfl⟩
  · rw [if_neg (by omega), if_pos (by omega)] at hr
    have HR := Lib.hid hr
    clear hr hz c1
    go_enter Tryd.func34, Tryd.ntmps34
    go_wp2
    go_ret
    exact ⟨eretS (by rw [HR.out]; rfl), rfl⟩
  · rw [if_neg (by omega), if_neg (by omega), if_pos (by omega)] at hr
    have HR := Lib.hid hr
    clear hr hz c1
    go_enter Tryd.func34, Tryd.ntmps34
    go_wp2
    go_ret
    exact ⟨eretS (by rw [HR.out]; rfl), rfl⟩
  · rw [if_neg (by omega), if_neg (by omega), if_neg (by omega)] at hr
    rw [hr]
    have q1 : (z == 34) = false := by simpa using n1
    have q2 : (z == 9) = false := by simpa using n2
    have q3 : (z == 10) = false := by simpa using n3
    clear hr hz n1 n2 n3
    generalize ofBytes (repB false x) = T at *
    go_enter Tryd.func34, Tryd.ntmps34
    (go_wp2_with fail); (refine (c1 _).mono ?_); (rintro e w' ⟨rfl, rfl⟩)
    go_wp2
    go_ret
    exact ⟨rfl, rfl⟩
end Go.Proofs.YtppmoeidgefkpaaDoor
end
section
namespace Go.Proofs.YtppmoeidgefkpaaDoor
section
open Go.RowKit
def nlF (t : ByteArray) : Nat → Nat → Nat
  | 0, k => k
  | f + 1, k => if k < t.size then (if (if k = 0 then qsB (decP t k).1 else qcB (decP t k).1) = true then nlF t f (k + (decP t k).2) else k) else k
def nlP (t : ByteArray) : Nat := nlF t (t.size + 1) 0
theorem isQB_nl (t : ByteArray) : isQB t = (decide (0 < t.size) && decide (nlP t = t.size)) := by
  have key : ∀ f k, t.size - k < f → k ≤ t.size → 0 < k → qnAt t k = decide (nlF t f k = t.size) := by
    intro f
    induction f with
    | zero => intro k h; omega
    | succ f ih =>
      intro k hf hk h0
      rw [nlF]
      by_cases hlt : k < t.size
      · have hok := decP_ok t k hlt
        rw [if_pos hlt, qnAt_eq t k hlt, if_neg (show ¬ k = 0 by omega)]
        by_cases hc : qcB (decP t k).1 = true
        · have hp := pos_of_qn t k hlt hc
          rw [if_pos hc, if_pos hc]
          exact ih _ (by omega) hok.1 (by omega)
        · rw [if_neg hc, if_neg hc, decide_eq_false (by omega)]
      · rw [if_neg hlt, qnAt_end t k (by omega), decide_eq_true (by omega)]
  by_cases h0 : 0 < t.size
  · have hok := decP_ok t 0 h0
    rw [isQB_pos t h0, decide_eq_true h0, Bool.true_and]
    unfold nlP
    rw [nlF, if_pos h0, if_pos rfl]
    by_cases hc : qsB (decP t 0).1 = true
    · have hp := pos_of_qn t 0 h0 (by
        cases h : qcB (decP t 0).1 with
        | true => rfl
        | false => rw [qs_char _ h] at hc; exact absurd hc (by decide))
      rw [hc, Bool.true_and, if_pos rfl, Nat.zero_add]
      exact key _ _ (by omega) (by omega) hp
    · rw [if_neg hc, decide_eq_false (by omega)]
      simp only [Bool.not_eq_true] at hc
      rw [hc]; rfl
  · unfold isQB
    rw [decide_eq_false h0]; rfl
end
section
open Go.RowKit
end
end Go.Proofs.YtppmoeidgefkpaaDoor
end
section
namespace Go.Proofs.YtppmoeidgefkpaaDoor
section
open Go.RowKit
set_option maxRecDepth 100000 in
set_option maxHeartbeats 4000000 in
theorem tok_part (r : Int) (b : Bool) (w : World) (hT : HasSpans w) :
    Calls Tryd.prog 54 #[.int .i32 r, .bool b] w fun e w' => e = .returned (.bool (if b then qsB r else qcB r)) ∧ Below w.heap.size w w' := by
  have cS : ∀ wx, HasSpans wx → _ := fun wx h => text_IsNameStart r wx h
  have cC : ∀ wx, HasSpans wx → _ := fun wx h => text_IsNameChar r wx h
  by_cases h : r = 58
  · subst h
    cases b
    all_goals
      go_enter Tryd.func54, Tryd.ntmps54
      go_wp2
      go_ret
      exact ⟨rfl, Below.refl _ _⟩
  · have hb : (r == 58) = false := by simpa using h
    have e1 : qsB r = nameStartB r := by unfold qsB; rw [hb]; rfl
    have e2 : qcB r = nameCharB r := by unfold qcB; rw [hb]; rfl
    rw [e1, e2]
    generalize nameStartB r = x at *
    generalize nameCharB r = y at *
    clear e1 e2 h
    cases b
    · go_enter Tryd.func54, Tryd.ntmps54
      (go_wp2_with fail); (refine (cC _ hT).mono ?_); (rintro e w1 ⟨rfl, b1⟩)
      go_wp2
      go_ret
      exact ⟨rfl, b1⟩
    · go_enter Tryd.func54, Tryd.ntmps54
      (go_wp2_with fail); (refine (cS _ hT).mono ?_); (rintro e w1 ⟨rfl, b1⟩)
      go_wp2
      go_ret
      exact ⟨rfl, b1⟩
theorem part_pos (t : ByteArray) (k : Nat) (hk : k < t.size) (hc : (if k = 0 then qsB (decP t k).1 else qcB (decP t k).1) = true) : 0 < (decP t k).2 := by
  rcases Nat.eq_zero_or_pos (decP t k).2 with h0 | h0
  · rw [(decP_ok t k hk).2.2.2 h0] at hc
    split at hc <;> exact absurd hc (by decide)
  · exact h0
set_option maxRecDepth 100000 in
set_option maxHeartbeats 8000000 in
theorem tok_nameLength (t : ByteArray) (w : World) (hs : t.size ≤ 1000000) (hT : HasTabs w) :
    Calls Tryd.prog 49 #[.string t] w fun e w' => e = .returned (.int .i64 (nlP t)) ∧ Below w.heap.size w w' := by
  go_enter Tryd.func49, Tryd.ntmps49
  go_wp2
  go_loopw [3] (fun q wr => ∃ k f : Nat, k ≤ t.size ∧ q = .int .i64 k ∧ (nlP t = nlF t f k ∧ t.size - k < f) ∧ Below w.heap.size w wr) (fun q _ => t.size - (intOf q).toNat)
  case atStart => exact ⟨0, t.size + 1, Nat.zero_le _, rfl, ⟨rfl, by omega⟩, Below.refl _ _⟩
  case round =>
    obtain ⟨k, f, hk, rfl, ⟨hrel, hf⟩, hbel⟩ := hrel
    have hz := hbel.size
    have hT1 := HasTabs_below hT hbel
    have cD := text_Decode t k wr (by unfold maxLen; omega) hT1.1
    obtain ⟨f, rfl⟩ : ∃ g, f = g + 1 := ⟨f - 1, by omega⟩
    rw [nlF] at hrel
    by_cases hlt : k < t.size
    · have hok := decP_ok t k hlt
      have hpos := part_pos t k hlt
      rw [decI_at t k hlt] at cD
      rw [if_pos hlt] at hrel
      generalize decP t k = d at *
      obtain ⟨r, m⟩ := d
      simp only at cD hok hrel hpos
      have hkz : (k : Int) ≤ 1000000 := by omega
      have cP : ∀ wx, HasSpans wx → _ := fun wx h => tok_part (r : Int) (decide (k = 0)) wx h
      have hm4 : (m : Int) ≤ 4 := by omega
      have hbz : ((k : Int) == 0) = decide (k = 0) := by
        rw [Bool.eq_iff_iff]; simp
      have hif : (if decide (k = 0) = true then qsB (r : Int) else qcB (r : Int)) = (if k = 0 then qsB (r : Int) else qcB (r : Int)) := by
        by_cases h0 : k = 0 <;> simp [h0]
      rw [hif] at cP
      generalize (if k = 0 then qsB (r : Int) else qcB (r : Int)) = c at *
      generalize decide (k = 0) = kb at *
      rcases c with _ | _
      · have HR := Lib.hid (hrel.trans (if_neg (by decide)))
        clear hrel hpos hif
        go_wp2_with fail
        refine cD.mono ?_
        rintro e w1 ⟨rfl, b1⟩
        have t1 := (HasTabs_below hT1 b1).2
        go_wp2_with fail
        refine (cP _ t1).mono ?_
        rintro e w2 ⟨rfl, b2⟩
        go_wp2
        go_ret
        exact ⟨kretI (by rw [HR.out]), hbel.trans ((b1.trans (b2.mono b1.size)).mono hz)⟩
      · have HR := Lib.hid (hrel.trans (if_pos rfl))
        have hp := hpos rfl
        clear hrel hpos hif
        go_wp2_with fail
        refine cD.mono ?_
        rintro e w1 ⟨rfl, b1⟩
        have t1 := (HasTabs_below hT1 b1).2
        go_wp2_with fail
        refine (cP _ t1).mono ?_
        rintro e w2 ⟨rfl, b2⟩
        go_wp2
        go_roundw
        case rel => exact ⟨k + m, f, by omega, by go_num, ⟨HR.out, by omega⟩, hbel.trans ((b1.trans (b2.mono b1.size)).mono hz)⟩
        case measure => simp [intOf]; omega
    · have hd0 : decI t (k : Int) = (0, 0) := by rw [decI, if_pos (Or.inr (by omega))]
      rw [hd0] at cD
      rw [if_neg hlt] at hrel
      have HR := Lib.hid hrel
      have hkz : (k : Int) ≤ 1000000 := by omega
      have cP : ∀ wx, HasSpans wx → _ := fun wx h => tok_part 0 (decide (k = 0)) wx h
      have hbz : ((k : Int) == 0) = decide (k = 0) := by
        rw [Bool.eq_iff_iff]; simp
      rw [show (if decide (k = 0) = true then qsB 0 else qcB 0) = false by split <;> decide] at cP
      generalize decide (k = 0) = kb at *
      clear hrel hd0
      go_wp2_with fail
      refine cD.mono ?_
      rintro e w1 ⟨rfl, b1⟩
      have t1 := (HasTabs_below hT1 b1).2
      go_wp2_with fail
      refine (cP _ t1).mono ?_
      rintro e w2 ⟨rfl, b2⟩
      go_wp2
      go_ret
      exact ⟨kretI (by rw [HR.out]), hbel.trans ((b1.trans (b2.mono b1.size)).mono hz)⟩
set_option maxRecDepth 100000 in
set_option maxHeartbeats 4000000 in
theorem tok_qname (s : ByteArray) (w : World) (hs : s.size ≤ 1000000) (hT : HasTabs w) :
    Calls Tryd.prog 41 #[.string s] w fun e w' => e = .returned (.bool (isQB s)) ∧ Below w.heap.size w w' := by
  have HQ := Lib.hid (isQB_nl s)
  have cN := tok_nameLength s w hs hT
  have hemp : s.toList.isEmpty = decide (s.size = 0) := by
    rw [Lib.toList_data]
    have := Lib.size_eq s
    cases h : s.data.toList with
    | nil => rw [h] at this; simp at this; simp [this]
    | cons a b => rw [h] at this; simp at this; simp [this]
  by_cases h0 : s.size = 0
  · have h1 : s.toList.isEmpty = true := by rw [hemp, decide_eq_true h0]
    have h2 : s.toList = [] := List.isEmpty_iff.1 h1
    have h3 : isQB s = false := by rw [HQ.out, decide_eq_false (by omega)]; rfl
    have H3 := Lib.hid h3
    clear hemp h0 h3
    go_enter Tryd.func41, Tryd.ntmps41
    go_wp2
    go_ret
    exact ⟨kretB H3.out.symm, Below.refl _ _⟩
  · have h1 : s.toList.isEmpty = false := by rw [hemp, decide_eq_false h0]
    have h2 : ¬ s.toList = [] := fun e => by rw [e] at h1; simp at h1
    have h3 : isQB s = decide (nlP s = s.size) := by rw [HQ.out, decide_eq_true (by omega), Bool.true_and]
    have H3 := Lib.hid h3
    clear hemp h0 h3
    generalize nlP s = q at *
    go_enter Tryd.func41, Tryd.ntmps41
    go_wp2_with fail
    refine cN.mono ?_
    rintro e w1 ⟨rfl, b1⟩
    go_wp2
    go_ret
    exact ⟨kretB (by rw [H3.out]; rw [Bool.eq_iff_iff]; simp; omega), b1⟩
end
section
open Go.RowKit
theorem bld_at_same {T e : TypeId} {B b : Nat} {q : Value} {bs : List Value} {w w' : World} (h : Lib.BuilderAtF T e B b q bs w) (hk : ∀ x, B ≤ x → x < w.heap.size → w'.heap[x]? = w.heap[x]?) : Lib.BuilderAtF T e B b q bs w' := by
  obtain ⟨hB, v, hh, hown, hne⟩ := h
  refine ⟨hB, v, (hk b hB (Array.getElem?_eq_some_iff.1 hh).1).trans hh, ⟨hown.1, ?_⟩, hne⟩
  rcases hown.2 with hn | ⟨g, cap, cur, fz, hv, hbg, hg, rest⟩
  · exact .inl hn
  · exact .inr ⟨g, cap, cur, fz, hv, hbg, (hk g hbg (Array.getElem?_eq_some_iff.1 hg).1).trans hg, rest⟩
theorem Bld.same {B b : Nat} {l : List UInt8} {w w' : World} (h : Bld B b l w) (hk : ∀ x, B ≤ x → x < w.heap.size → w'.heap[x]? = w.heap[x]?) : Bld B b l w' := h.elim (fun x => .inl (bld_at_same x hk)) (fun x => .inr (bld_at_same x hk))
theorem Bld.set {B b p : Nat} {l : List UInt8} {w : World} (h : Bld B b l w) (hp : p < B) (o : Nat) (u : Value) : Bld B b l (w.setCell ⟨p, o, none⟩ u) :=
  h.same fun x hx _ => Below.heap_setCell w ⟨p, o, none⟩ u x (fun e => by have : x = p := e; omega)
end
end Go.Proofs.YtppmoeidgefkpaaDoor
end
section
namespace Go.Proofs.YtppmoeidgefkpaaDoor
open Go.RowKit
set_option maxRecDepth 100000 in
set_option maxHeartbeats 16000000 in
theorem esc_escape_false (s : ByteArray) (w : World) (hs : s.size ≤ 1000000) : Calls Tryd.prog 32 #[.string s, .func (.func 33) #[] #[]] w fun e w' => e = .returned (.string (ofBytes (escP false s.data.toList))) ∧ Below w.heap.size w w' := by
  have hsl : s.data.toList.length = s.size := by simp
  have HSL := Lib.hid hsl
  clear hsl
  have hfr := bld_fresh w
  go_enter Tryd.func32, Tryd.ntmps32
  go_wp2
  go_loopw [6, 11] (fun cp i wr => ∃ (c k : Nat) (acc : List UInt8), c ≤ k ∧ k ≤ s.size ∧ cp = .int .i64 c ∧ i = .int .i64 k ∧ Bld w.heap.size w.heap.size acc wr ∧ Below w.heap.size w wr ∧ (escP false s.data.toList = (acc ++ (s.data.toList.drop c).take (k - c)) ++ escP false (s.data.toList.drop k) ∧ acc.length ≤ 6 * c)) (fun _ i _ => s.size - (intOf i).toNat)
  case atStart => exact ⟨0, 0, [], by omega, by omega, rfl, rfl, hfr, (Below.refl _ _).alloc (Nat.le_refl _) _, by simp, by simp⟩
  case round =>
    obtain ⟨c, k, acc, hck, hk, rfl, rfl, hB, hbel, hrel, hal⟩ := hrel
    have hz := hbel.size
    clear hfr
    by_cases hlt : k < s.size
    · have hkl : k < s.data.toList.length := by have := HSL.out; omega
      obtain ⟨x, hx⟩ : ∃ x, s[k]'hlt = x := ⟨_, rfl⟩
      have hxl : s.data.toList[k]'hkl = x := by rw [← hx]; simp [ByteArray.getElem_eq_getElem_data]
      have htk : (s.data.toList.drop c).take (k + 1 - c) = (s.data.toList.drop c).take (k - c) ++ [x] := by
        rw [show k + 1 - c = (k - c) + 1 by omega, List.take_add_one, List.getElem?_drop, show c + (k - c) = k by omega, List.getElem?_eq_getElem hkl, hxl]; rfl
      rw [List.drop_eq_getElem_cons hkl, hxl, escP_cons, esc_rep, ← List.append_assoc] at hrel
      have hkz : (k : Int) < (s.size : Int) := by omega
      have hx8 := x.toNat_lt
      have cF : ∀ wx, _ := fun wx => esc_inText x wx
      have hrl := repB_len false x
      by_cases hr : repB false x = []
      · rw [if_pos hr] at hrel
        rw [hr, show ofBytes [] = (⟨#[]⟩ : ByteArray) from rfl] at cF
        have R : escP false s.data.toList = (acc ++ (s.data.toList.drop c).take (k + 1 - c)) ++ escP false (s.data.toList.drop (k + 1)) := by
          rw [htk, ← List.append_assoc]; exact hrel
        have HR := Lib.hid R
        clear R hrel htk hxl hr hrl
        obtain ⟨z, hzx⟩ : ∃ z : Int, (x.toNat : Int) = z := ⟨_, rfl⟩
        rw [hzx] at cF
        go_wp2_with fail
        refine (cF _).mono ?_
        rintro e w' ⟨rfl, rfl⟩
        go_wp2
        go_roundw
        case rel => exact ⟨c, k + 1, acc, by omega, by omega, rfl, by go_num, hB, hbel, HR.out, hal⟩
        case measure => simp [intOf]; omega
      · rw [if_neg hr] at hrel
        have R : escP false s.data.toList = ((acc ++ (s.data.toList.drop c).take (k - c) ++ repB false x) ++ (s.data.toList.drop (k + 1)).take (k + 1 - (k + 1))) ++ escP false (s.data.toList.drop (k + 1)) := by
          rw [Nat.sub_self, List.take_zero, List.append_nil]; exact hrel
        have HR := Lib.hid R
        have hml : ((s.data.toList.drop c).take (k - c)).length ≤ k - c := List.length_take_le _ _
        have hsc : ∀ wx, _ := fun wx => slice_mid s (c : Int) (k : Int) (by omega) (by omega) (by omega) wx
        rw [Int.toNat_natCast, Int.toNat_natCast, eext] at hsc
        generalize (s.data.toList.drop c).take (k - c) = md at *
        have hne1 : (ofBytes (repB false x)).toList.isEmpty = false := by
          rw [ByteArray.toList_eq, ofBytes_list]
          cases hh : repB false x with
          | nil => exact absurd hh hr
          | cons _ _ => rfl
        have hne2 : ¬ (ofBytes (repB false x)).toList = [] := by rw [ByteArray.toList_eq, ofBytes_list]; exact hr
        have zm : (ofBytes md).size = md.length := ofBytes_size md
        have zr : (ofBytes (repB false x)).size = (repB false x).length := ofBytes_size _
        have W1 : ∀ wx, Bld w.heap.size w.heap.size acc wx → w.heap.size ≤ wx.heap.size → _ := fun wx h1 h2 => bld_WriteString w.heap.size w.heap.size acc (ofBytes md) wx h1 (by omega) h2
        have W2 : ∀ wx, Bld w.heap.size w.heap.size (acc ++ md) wx → w.heap.size ≤ wx.heap.size → _ := fun wx h1 h2 => bld_WriteString w.heap.size w.heap.size (acc ++ md) (ofBytes (repB false x)) wx h1 (by rw [List.length_append]; omega) h2
        rw [ofBytes_list] at W1 W2
        have hal2 : (acc ++ md ++ repB false x).length ≤ 6 * (k + 1) := by rw [List.length_append, List.length_append]; omega
        clear R hrel htk hxl hr hml zm zr hrl
        generalize acc ++ md ++ repB false x = acc3 at *
        generalize acc ++ md = acc2 at *
        generalize ofBytes (repB false x) = RS at *
        generalize ofBytes md = MS at *
        obtain ⟨z, hzx⟩ : ∃ z : Int, (x.toNat : Int) = z := ⟨_, rfl⟩
        rw [hzx] at cF
        go_wp2_with fail
        refine (cF _).mono ?_
        rintro e w' ⟨rfl, rfl⟩
        go_wp2_with fail
        refine (W1 _ hB hz).mono ?_
        rintro e w1 ⟨rfl, B1, b1⟩
        have z1 := b1.size
        go_wp2_with fail
        refine (W2 _ B1 (by omega)).mono ?_
        rintro e w2 ⟨rfl, B2, b2⟩
        go_wp2
        go_roundw
        case rel => exact ⟨k + 1, k + 1, _, by omega, by omega, by go_num, by go_num, B2, (hbel.trans b1).trans b2, HR.out, hal2⟩
        case measure => simp [intOf]; omega
    · obtain rfl : k = s.size := by omega
      have hsf : ∀ wx, _ := fun wx => slice_from s (c : Int) (by omega) (by omega) wx
      rw [Int.toNat_natCast, eext] at hsf
      rw [List.drop_eq_nil_of_le (i := s.size) (by have := HSL.out; omega), show escP false [] = [] from rfl, List.append_nil] at hrel
      have hml : ((s.data.toList.drop c).take (s.size - c)).length ≤ s.size - c := List.length_take_le _ _
      generalize (s.data.toList.drop c).take (s.size - c) = md at *
      have zm : (ofBytes md).size = md.length := ofBytes_size md
      have W1 : ∀ wx, Bld w.heap.size w.heap.size acc wx → w.heap.size ≤ wx.heap.size → _ := fun wx h1 h2 => bld_WriteString w.heap.size w.heap.size acc (ofBytes md) wx h1 (by omega) h2
      rw [ofBytes_list] at W1
      have W2 : ∀ wx, Bld w.heap.size w.heap.size (acc ++ md) wx → w.heap.size ≤ wx.heap.size → _ := fun wx h1 h2 => bld_String w.heap.size w.heap.size (acc ++ md) wx h1 h2
      have HE := Lib.hid hrel
      clear hrel hml zm
      generalize acc ++ md = E at *
      generalize ofBytes md = MS at *
      go_wp2_with fail
      refine (W1 _ hB hz).mono ?_
      rintro e w1 ⟨rfl, B1, b1⟩
      have z1 := b1.size
      go_wp2_with fail
      refine (W2 _ B1 (by omega)).mono ?_
      rintro e w2 ⟨rfl, B2, b2⟩
      go_wp2
      go_ret
      exact ⟨eretS (by rw [HE.out]), (hbel.trans b1).trans b2⟩
set_option maxRecDepth 100000 in
set_option maxHeartbeats 16000000 in
theorem esc_escape_true (s : ByteArray) (w : World) (hs : s.size ≤ 1000000) : Calls Tryd.prog 32 #[.string s, .func (.func 34) #[] #[]] w fun e w' => e = .returned (.string (ofBytes (escP true s.data.toList))) ∧ Below w.heap.size w w' := by
  have hsl : s.data.toList.length = s.size := by simp
  have HSL := Lib.hid hsl
  clear hsl
  have hfr := bld_fresh w
  go_enter Tryd.func32, Tryd.ntmps32
  go_wp2
  go_loopw [6, 11] (fun cp i wr => ∃ (c k : Nat) (acc : List UInt8), c ≤ k ∧ k ≤ s.size ∧ cp = .int .i64 c ∧ i = .int .i64 k ∧ Bld w.heap.size w.heap.size acc wr ∧ Below w.heap.size w wr ∧ (escP true s.data.toList = (acc ++ (s.data.toList.drop c).take (k - c)) ++ escP true (s.data.toList.drop k) ∧ acc.length ≤ 6 * c)) (fun _ i _ => s.size - (intOf i).toNat)
  case atStart => exact ⟨0, 0, [], by omega, by omega, rfl, rfl, hfr, (Below.refl _ _).alloc (Nat.le_refl _) _, by simp, by simp⟩
  case round =>
    obtain ⟨c, k, acc, hck, hk, rfl, rfl, hB, hbel, hrel, hal⟩ := hrel
    have hz := hbel.size
    clear hfr
    by_cases hlt : k < s.size
    · have hkl : k < s.data.toList.length := by have := HSL.out; omega
      obtain ⟨x, hx⟩ : ∃ x, s[k]'hlt = x := ⟨_, rfl⟩
      have hxl : s.data.toList[k]'hkl = x := by rw [← hx]; simp [ByteArray.getElem_eq_getElem_data]
      have htk : (s.data.toList.drop c).take (k + 1 - c) = (s.data.toList.drop c).take (k - c) ++ [x] := by
        rw [show k + 1 - c = (k - c) + 1 by omega, List.take_add_one, List.getElem?_drop, show c + (k - c) = k by omega, List.getElem?_eq_getElem hkl, hxl]; rfl
      rw [List.drop_eq_getElem_cons hkl, hxl, escP_cons, esc_rep, ← List.append_assoc] at hrel
      have hkz : (k : Int) < (s.size : Int) := by omega
      have hx8 := x.toNat_lt
      have cF : ∀ wx, _ := fun wx => esc_inAttr x wx
      have hrl := repB_len true x
      by_cases hr : repB true x = []
      · rw [if_pos hr] at hrel
        rw [hr, show ofBytes [] = (⟨#[]⟩ : ByteArray) from rfl] at cF
        have R : escP true s.data.toList = (acc ++ (s.data.toList.drop c).take (k + 1 - c)) ++ escP true (s.data.toList.drop (k + 1)) := by
          rw [htk, ← List.append_assoc]; exact hrel
        have HR := Lib.hid R
        clear R hrel htk hxl hr hrl
        obtain ⟨z, hzx⟩ : ∃ z : Int, (x.toNat : Int) = z := ⟨_, rfl⟩
        rw [hzx] at cF
        go_wp2_with fail
        refine (cF _).mono ?_
        rintro e w' ⟨rfl, rfl⟩
        go_wp2
        go_roundw
        case rel => exact ⟨c, k + 1, acc, by omega, by omega, rfl, by go_num, hB, hbel, HR.out, hal⟩
        case measure => simp [intOf]; omega
      · rw [if_neg hr] at hrel
        have R : escP true s.data.toList = ((acc ++ (s.data.toList.drop c).take (k - c) ++ repB true x) ++ (s.data.toList.drop (k + 1)).take (k + 1 - (k + 1))) ++ escP true (s.data.toList.drop (k + 1)) := by
          rw [Nat.sub_self, List.take_zero, List.append_nil]; exact hrel
        have HR := Lib.hid R
        have hml : ((s.data.toList.drop c).take (k - c)).length ≤ k - c := List.length_take_le _ _
        have hsc : ∀ wx, _ := fun wx => slice_mid s (c : Int) (k : Int) (by omega) (by omega) (by omega) wx
        rw [Int.toNat_natCast, Int.toNat_natCast, eext] at hsc
        generalize (s.data.toList.drop c).take (k - c) = md at *
        have hne1 : (ofBytes (repB true x)).toList.isEmpty = false := by
          rw [ByteArray.toList_eq, ofBytes_list]
          cases hh : repB true x with
          | nil => exact absurd hh hr
          | cons _ _ => rfl
        have hne2 : ¬ (ofBytes (repB true x)).toList = [] := by rw [ByteArray.toList_eq, ofBytes_list]; exact hr
        have zm : (ofBytes md).size = md.length := ofBytes_size md
        have zr : (ofBytes (repB true x)).size = (repB true x).length := ofBytes_size _
        have W1 : ∀ wx, Bld w.heap.size w.heap.size acc wx → w.heap.size ≤ wx.heap.size → _ := fun wx h1 h2 => bld_WriteString w.heap.size w.heap.size acc (ofBytes md) wx h1 (by omega) h2
        have W2 : ∀ wx, Bld w.heap.size w.heap.size (acc ++ md) wx → w.heap.size ≤ wx.heap.size → _ := fun wx h1 h2 => bld_WriteString w.heap.size w.heap.size (acc ++ md) (ofBytes (repB true x)) wx h1 (by rw [List.length_append]; omega) h2
        rw [ofBytes_list] at W1 W2
        have hal2 : (acc ++ md ++ repB true x).length ≤ 6 * (k + 1) := by rw [List.length_append, List.length_append]; omega
        clear R hrel htk hxl hr hml zm zr hrl
        generalize acc ++ md ++ repB true x = acc3 at *
        generalize acc ++ md = acc2 at *
        generalize ofBytes (repB true x) = RS at *
        generalize ofBytes md = MS at *
        obtain ⟨z, hzx⟩ : ∃ z : Int, (x.toNat : Int) = z := ⟨_, rfl⟩
        rw [hzx] at cF
        go_wp2_with fail
        refine (cF _).mono ?_
        rintro e w' ⟨rfl, rfl⟩
        go_wp2_with fail
        refine (W1 _ hB hz).mono ?_
        rintro e w1 ⟨rfl, B1, b1⟩
        have z1 := b1.size
        go_wp2_with fail
        refine (W2 _ B1 (by omega)).mono ?_
        rintro e w2 ⟨rfl, B2, b2⟩
        go_wp2
        go_roundw
        case rel => exact ⟨k + 1, k + 1, _, by omega, by omega, by go_num, by go_num, B2, (hbel.trans b1).trans b2, HR.out, hal2⟩
        case measure => simp [intOf]; omega
    · obtain rfl : k = s.size := by omega
      have hsf : ∀ wx, _ := fun wx => slice_from s (c : Int) (by omega) (by omega) wx
      rw [Int.toNat_natCast, eext] at hsf
      rw [List.drop_eq_nil_of_le (i := s.size) (by have := HSL.out; omega), show escP true [] = [] from rfl, List.append_nil] at hrel
      have hml : ((s.data.toList.drop c).take (s.size - c)).length ≤ s.size - c := List.length_take_le _ _
      generalize (s.data.toList.drop c).take (s.size - c) = md at *
      have zm : (ofBytes md).size = md.length := ofBytes_size md
      have W1 : ∀ wx, Bld w.heap.size w.heap.size acc wx → w.heap.size ≤ wx.heap.size → _ := fun wx h1 h2 => bld_WriteString w.heap.size w.heap.size acc (ofBytes md) wx h1 (by omega) h2
      rw [ofBytes_list] at W1
      have W2 : ∀ wx, Bld w.heap.size w.heap.size (acc ++ md) wx → w.heap.size ≤ wx.heap.size → _ := fun wx h1 h2 => bld_String w.heap.size w.heap.size (acc ++ md) wx h1 h2
      have HE := Lib.hid hrel
      clear hrel hml zm
      generalize acc ++ md = E at *
      generalize ofBytes md = MS at *
      go_wp2_with fail
      refine (W1 _ hB hz).mono ?_
      rintro e w1 ⟨rfl, B1, b1⟩
      have z1 := b1.size
      go_wp2_with fail
      refine (W2 _ B1 (by omega)).mono ?_
      rintro e w2 ⟨rfl, B2, b2⟩
      go_wp2
      go_ret
      exact ⟨eretS (by rw [HE.out]), (hbel.trans b1).trans b2⟩
end Go.Proofs.YtppmoeidgefkpaaDoor
end
section
namespace Go.Proofs.YtppmoeidgefkpaaDoor
section
open Go.RowKit
end
section
open Go.RowKit
end
section
open Go.RowKit
end
section
open Go.RowKit Go.Maps
def nmD : List AttrD → DataW Unit
  | [] => .map []
  | x :: r => (nmD r).put (.string x.nm.data.toList) (.lit (.bool true))
theorem nmD_map : ∀ l, IsMap (nmD l)
  | [] => isMap_empty
  | _ :: r => (nmD_map r).put _ _
theorem nm_keyLit (t : List UInt8) : WideAt.IsKeyLit (.string t) := trivial
theorem nmD_yes (t : List UInt8) : ∀ l : List AttrD, (∃ x ∈ l, x.nm.data.toList = t) → (nmD l).atKey (.string t) (.lit (.bool false)) = .lit (.bool true)
  | [], h => by obtain ⟨x, hx, _⟩ := h; simp at hx
  | y :: r, h => by
    rw [nmD]
    by_cases hy : y.nm.data.toList = t
    · rw [hy, atKey_put_same (nmD_map r) (nm_keyLit _)]
    · rw [atKey_put_other (by simpa using fun e : t = y.nm.data.toList => hy e.symm)]
      refine nmD_yes t r ?_
      obtain ⟨x, hx, he⟩ := h
      rcases List.mem_cons.1 hx with rfl | hx
      · exact absurd he hy
      · exact ⟨x, hx, he⟩
theorem nmD_no (t : List UInt8) : ∀ l : List AttrD, (¬ ∃ x ∈ l, x.nm.data.toList = t) → (nmD l).atKey (.string t) (.lit (.bool false)) = .lit (.bool false)
  | [], _ => rfl
  | y :: r, h => by
    rw [nmD, atKey_put_other (by simpa using fun e : t = y.nm.data.toList => h ⟨y, List.mem_cons_self .., e.symm⟩)]
    exact nmD_no t r fun ⟨x, hx, he⟩ => h ⟨x, List.mem_cons_of_mem _ hx, he⟩
theorem slaw : Keyed Tryd.prog 9 := string_keyed Tryd.underlying9
theorem zero_bool (w : World) : (zeroValue 4).run Tryd.prog w = .ok (.bool false) w := by kernel_rfl
theorem plainElem_bool_inv {P : Program} {e : TypeId} (he : P.underlying e = some .bool) {v : Value} {z : DataW Unit × List MemPlace} (h : plainElem P e v = some z) : ∃ b : Bool, v = .bool b ∧ z = (.lit (.bool b), []) := by
  unfold plainElem at h
  rw [he] at h
  cases v <;> simp at h
  exact ⟨_, rfl, h.symm⟩
def NmSet (w : World) (b : Nat) (l : List AttrD) : Prop := w.ownsMap Tryd.prog 9 (plainElem Tryd.prog 4) b l.length (nmD l)
theorem NmSet.same {w w' : World} {b : Nat} {l : List AttrD} (h : NmSet w b l) (hb : w'.heap[b]? = w.heap[b]?) : NmSet w' b l := by
  obtain ⟨es, clock, h1, h2⟩ := h
  exact ⟨es, clock, hb.trans h1, h2⟩
theorem NmSet.lt {w : World} {b : Nat} {l : List AttrD} (h : NmSet w b l) : b < w.heap.size := by
  obtain ⟨es, clock, h1, _⟩ := h
  exact (Array.getElem?_eq_some_iff.1 h1).1
theorem NmSet.look_yes {w : World} {b : Nat} {l : List AttrD} (h : NmSet w b l) (s : ByteArray) (hs : s.size ≤ maxLen) (hd : ∃ x ∈ l, x.nm = s) : (Instr.lookup 78 (.map (some b)) (.string s) false).run Tryd.prog w = .ok (.bool true) w := by
  obtain ⟨v, ps, hrun, hv⟩ := World.ownsMap.lookup h slaw Tryd.underlying78 (zero_bool w) (plainElem_bool Tryd.underlying4 false) (Go.WideMaps.keyOf_string_mk Tryd.underlying9 hs)
  obtain ⟨c, rfl, hz⟩ := plainElem_bool_inv Tryd.underlying4 hv
  simp only [Prod.mk.injEq] at hz
  rw [hrun]
  have h3 := nmD_yes s.data.toList l (by obtain ⟨x, hx, rfl⟩ := hd; exact ⟨x, hx, rfl⟩)
  rw [Lit.bool.inj (DataW.lit.inj (hz.1.symm.trans h3))]
theorem NmSet.look_no {w : World} {b : Nat} {l : List AttrD} (h : NmSet w b l) (s : ByteArray) (hs : s.size ≤ maxLen) (hd : ¬ ∃ x ∈ l, x.nm = s) : (Instr.lookup 78 (.map (some b)) (.string s) false).run Tryd.prog w = .ok (.bool false) w := by
  obtain ⟨v, ps, hrun, hv⟩ := World.ownsMap.lookup h slaw Tryd.underlying78 (zero_bool w) (plainElem_bool Tryd.underlying4 false) (Go.WideMaps.keyOf_string_mk Tryd.underlying9 hs)
  obtain ⟨c, rfl, hz⟩ := plainElem_bool_inv Tryd.underlying4 hv
  simp only [Prod.mk.injEq] at hz
  rw [hrun]
  have h3 := nmD_no s.data.toList l (fun ⟨x, hx, he⟩ => hd ⟨x, hx, kstr_ext he⟩)
  rw [Lit.bool.inj (DataW.lit.inj (hz.1.symm.trans h3))]
end
end Go.Proofs.YtppmoeidgefkpaaDoor
end
