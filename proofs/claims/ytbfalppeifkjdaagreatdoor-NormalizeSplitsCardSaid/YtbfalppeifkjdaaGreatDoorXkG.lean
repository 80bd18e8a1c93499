/- Packed from the texts JsF JsJ JsX. -/
import Derived.Test.YtbfalppeifkjdaaGreatDoorXShelf
import Derived.Test.YtbfalppeifkjdaaGreatDoorXkB
import Derived.Test.YtbfalppeifkjdaaGreatDoorXkD
import Derived.Test.YtbfalppeifkjdaaGreatDoorXkF
import Derived.Deep.QuietTactic
import Derived.BigQuiet
import Derived.WalkSmall
import Derived.Lib.ConvBytes
import Derived.Laws.Closers25
import Derived.Laws.Closers25b
import Derived.BigCall
import Derived.BigGuard
import Derived.Shelf.Unicode.ValidAny
import Derived.Shelf.Unicode.DecodeSlow
import Derived.WalkMore
import Derived.Test.YtbfalppeifkjdaaGreatDoorRows
import Derived.PinnedBridge
import Derived.Lib.LaidU8
import Derived.Lib.LaidU8T
import Derived.MakeChecks
import Derived.OpenShut
import Derived.Laws.IdiomArrays
section
namespace Go.Proofs.YtbfalppeifkjdaaGreatDoor
open Go.RowKit
def escT : List (Int × Int) := [(34, 34), (92, 92), (47, 47), (98, 8), (102, 12), (110, 10), (114, 13), (116, 9)]
def escV : Value := .agg #[.int .u8 34, .int .u8 34, .int .u8 92, .int .u8 92, .int .u8 47, .int .u8 47, .int .u8 98, .int .u8 8, .int .u8 102, .int .u8 12, .int .u8 110, .int .u8 10, .int .u8 114, .int .u8 13, .int .u8 116, .int .u8 9]
def EscJ (w : World) : Prop := ∀ i, i < 8 → w.cell? ⟨3, i * 2, none⟩ = some (.int .u8 (escT.getD i (0, 0)).1) ∧ w.cell? ⟨3, i * 2 + 1, none⟩ = some (.int .u8 (escT.getD i (0, 0)).2)
theorem jblock_lt {w : World} {a : Addr} {v : Value} (hc : w.cell? a = some v) : a.block < w.heap.size := by
  rcases Nat.lt_or_ge a.block w.heap.size with h' | h'
  · exact h'
  · simp [World.cell?, Array.getElem?_eq_none h'] at hc
theorem EscJ_below {w w' : World} (h : EscJ w) (hb : Below w.heap.size w w') : EscJ w' := fun i hi => by
  obtain ⟨h1, h2⟩ := h i hi
  exact ⟨(hb.cell (jblock_lt h1)).trans h1, (hb.cell (jblock_lt h2)).trans h2⟩
def lfL (c : Int) : List (Int × Int) → Int × Bool
  | [] => (0, false)
  | (l, m) :: r => if m = c then (l, true) else lfL c r
theorem escT_drop : ∀ k : Fin 8, escT.drop k.val = (escT.getD k.val (0, 0)) :: escT.drop (k.val + 1) := by decide
theorem escV_at (k : Nat) (h : k < 8) (w : World) : (Instr.index 219 escV (.int .i64 (k : Int))).run Tryz.prog w = .ok (.agg #[.int .u8 (escT.getD k (0, 0)).1, .int .u8 (escT.getD k (0, 0)).2]) w := by
  have h0 : ∀ wx, (Instr.index 219 (.agg #[.int .u8 34, .int .u8 34, .int .u8 92, .int .u8 92, .int .u8 47, .int .u8 47, .int .u8 98, .int .u8 8, .int .u8 102, .int .u8 12, .int .u8 110, .int .u8 10, .int .u8 114, .int .u8 13, .int .u8 116, .int .u8 9]) (.int .i64 0)).run Tryz.prog wx = .ok (.agg #[.int .u8 34, .int .u8 34]) wx := fun _ => by kernel_rfl
  have h1 : ∀ wx, (Instr.index 219 (.agg #[.int .u8 34, .int .u8 34, .int .u8 92, .int .u8 92, .int .u8 47, .int .u8 47, .int .u8 98, .int .u8 8, .int .u8 102, .int .u8 12, .int .u8 110, .int .u8 10, .int .u8 114, .int .u8 13, .int .u8 116, .int .u8 9]) (.int .i64 1)).run Tryz.prog wx = .ok (.agg #[.int .u8 92, .int .u8 92]) wx := fun _ => by kernel_rfl
  have h2 : ∀ wx, (Instr.index 219 (.agg #[.int .u8 34, .int .u8 34, .int .u8 92, .int .u8 92, .int .u8 47, .int .u8 47, .int .u8 98, .int .u8 8, .int .u8 102, .int .u8 12, .int .u8 110, .int .u8 10, .int .u8 114, .int .u8 13, .int .u8 116, .int .u8 9]) (.int .i64 2)).run Tryz.prog wx = .ok (.agg #[.int .u8 47, .int .u8 47]) wx := fun _ => by kernel_rfl
  have h3 : ∀ wx, (Instr.index 219 (.agg #[.int .u8 34, .int .u8 34, .int .u8 92, .int .u8 92, .int .u8 47, .int .u8 47, .int .u8 98, .int .u8 8, .int .u8 102, .int .u8 12, .int .u8 110, .int .u8 10, .int .u8 114, .int .u8 13, .int .u8 116, .int .u8 9]) (.int .i64 3)).run Tryz.prog wx = .ok (.agg #[.int .u8 98, .int .u8 8]) wx := fun _ => by kernel_rfl
  have h4 : ∀ wx, (Instr.index 219 (.agg #[.int .u8 34, .int .u8 34, .int .u8 92, .int .u8 92, .int .u8 47, .int .u8 47, .int .u8 98, .int .u8 8, .int .u8 102, .int .u8 12, .int .u8 110, .int .u8 10, .int .u8 114, .int .u8 13, .int .u8 116, .int .u8 9]) (.int .i64 4)).run Tryz.prog wx = .ok (.agg #[.int .u8 102, .int .u8 12]) wx := fun _ => by kernel_rfl
  have h5 : ∀ wx, (Instr.index 219 (.agg #[.int .u8 34, .int .u8 34, .int .u8 92, .int .u8 92, .int .u8 47, .int .u8 47, .int .u8 98, .int .u8 8, .int .u8 102, .int .u8 12, .int .u8 110, .int .u8 10, .int .u8 114, .int .u8 13, .int .u8 116, .int .u8 9]) (.int .i64 5)).run Tryz.prog wx = .ok (.agg #[.int .u8 110, .int .u8 10]) wx := fun _ => by kernel_rfl
  have h6 : ∀ wx, (Instr.index 219 (.agg #[.int .u8 34, .int .u8 34, .int .u8 92, .int .u8 92, .int .u8 47, .int .u8 47, .int .u8 98, .int .u8 8, .int .u8 102, .int .u8 12, .int .u8 110, .int .u8 10, .int .u8 114, .int .u8 13, .int .u8 116, .int .u8 9]) (.int .i64 6)).run Tryz.prog wx = .ok (.agg #[.int .u8 114, .int .u8 13]) wx := fun _ => by kernel_rfl
  have h7 : ∀ wx, (Instr.index 219 (.agg #[.int .u8 34, .int .u8 34, .int .u8 92, .int .u8 92, .int .u8 47, .int .u8 47, .int .u8 98, .int .u8 8, .int .u8 102, .int .u8 12, .int .u8 110, .int .u8 10, .int .u8 114, .int .u8 13, .int .u8 116, .int .u8 9]) (.int .i64 7)).run Tryz.prog wx = .ok (.agg #[.int .u8 116, .int .u8 9]) wx := fun _ => by kernel_rfl
  rcases (by omega : k = 0 ∨ k = 1 ∨ k = 2 ∨ k = 3 ∨ k = 4 ∨ k = 5 ∨ k = 6 ∨ k = 7) with rfl | rfl | rfl | rfl | rfl | rfl | rfl | rfl
  · exact h0 w
  · exact h1 w
  · exact h2 w
  · exact h3 w
  · exact h4 w
  · exact h5 w
  · exact h6 w
  · exact h7 w
theorem jretL {a : Int} {b : Bool} {p : Int × Bool} (h : p = (a, b)) : Ending.returned (.tuple #[.int .u8 a, .bool b]) = .returned (.tuple #[.int .u8 p.1, .bool p.2]) := by subst h; rfl
set_option maxRecDepth 100000 in
set_option maxHeartbeats 8000000 in
theorem js_letterFor (c : Int) (w : World) (hT : EscJ w) :
    Calls Tryz.prog 172 #[.int .u8 c] w fun e w' => e = .returned (.tuple #[.int .u8 (lfL c escT).1, .bool (lfL c escT).2]) ∧ Below w.heap.size w w' := by
  have c0 : w.cell? ⟨3, 0, none⟩ = some (.int .u8 34) := (hT 0 (by decide)).1
  have c1 : w.cell? ⟨3, 1, none⟩ = some (.int .u8 34) := (hT 0 (by decide)).2
  have c2 : w.cell? ⟨3, 2, none⟩ = some (.int .u8 92) := (hT 1 (by decide)).1
  have c3 : w.cell? ⟨3, 3, none⟩ = some (.int .u8 92) := (hT 1 (by decide)).2
  have c4 : w.cell? ⟨3, 4, none⟩ = some (.int .u8 47) := (hT 2 (by decide)).1
  have c5 : w.cell? ⟨3, 5, none⟩ = some (.int .u8 47) := (hT 2 (by decide)).2
  have c6 : w.cell? ⟨3, 6, none⟩ = some (.int .u8 98) := (hT 3 (by decide)).1
  have c7 : w.cell? ⟨3, 7, none⟩ = some (.int .u8 8) := (hT 3 (by decide)).2
  have c8 : w.cell? ⟨3, 8, none⟩ = some (.int .u8 102) := (hT 4 (by decide)).1
  have c9 : w.cell? ⟨3, 9, none⟩ = some (.int .u8 12) := (hT 4 (by decide)).2
  have c10 : w.cell? ⟨3, 10, none⟩ = some (.int .u8 110) := (hT 5 (by decide)).1
  have c11 : w.cell? ⟨3, 11, none⟩ = some (.int .u8 10) := (hT 5 (by decide)).2
  have c12 : w.cell? ⟨3, 12, none⟩ = some (.int .u8 114) := (hT 6 (by decide)).1
  have c13 : w.cell? ⟨3, 13, none⟩ = some (.int .u8 13) := (hT 6 (by decide)).2
  have c14 : w.cell? ⟨3, 14, none⟩ = some (.int .u8 116) := (hT 7 (by decide)).1
  have c15 : w.cell? ⟨3, 15, none⟩ = some (.int .u8 9) := (hT 7 (by decide)).2
  clear hT
  go_enter Tryz.func172, Tryz.ntmps172
  go_wp2
  rw [show (.agg #[.int .u8 34, .int .u8 34, .int .u8 92, .int .u8 92, .int .u8 47, .int .u8 47, .int .u8 98, .int .u8 8, .int .u8 102, .int .u8 12, .int .u8 110, .int .u8 10, .int .u8 114, .int .u8 13, .int .u8 116, .int .u8 9] : Value) = escV from rfl]
  go_loopw [7] (fun q wr => ∃ k : Nat, k ≤ 8 ∧ q = .int .i64 k ∧ lfL c escT = lfL c (escT.drop k) ∧ Below w.heap.size w wr) (fun q _ => 8 - (RowKit.intOf q).toNat)
  case atStart => exact ⟨0, by omega, rfl, rfl, Below.refl _ _⟩
  case round =>
    obtain ⟨k, hk, rfl, hrel, hbel⟩ := hrel
    have hz := hbel.size
    clear c0 c1 c2 c3 c4 c5 c6 c7 c8 c9 c10 c11 c12 c13 c14 c15
    by_cases hlt : k < 8
    · have hix := escV_at k hlt
      have hd := escT_drop ⟨k, hlt⟩
      simp only at hd
      rw [hd] at hrel
      generalize escT.getD k (0, 0) = lm at *
      obtain ⟨l, m⟩ := lm
      rw [lfL] at hrel
      simp only at hix
      have hlz : (k : Int) < 8 := by omega
      clear hd
      generalize escV = V at *
      by_cases hm : m = c
      · rw [if_pos hm] at hrel
        have HR := Lib.hid hrel
        have hmb : (m == c) = true := by simpa using hm
        clear hrel hm
        go_wp2
        go_ret2
        exact ⟨jretL HR.out, by (repeat (first | exact hbel | apply Below.drew | (refine Below.setCell ?_ (by first | omega | (simp; done) | (simp; omega)) _) | (refine Below.alloc ?_ (by first | omega | (simp; done) | (simp; omega)) _)))⟩
      · rw [if_neg hm] at hrel
        have HR := Lib.hid hrel
        have hmb : (m == c) = false := by simpa using hm
        clear hrel
        go_wp2
        go_roundw
        case rel => exact ⟨k + 1, by omega, by go_num, HR.out, by (repeat (first | exact hbel | apply Below.drew | (refine Below.setCell ?_ (by first | omega | (simp; done) | (simp; omega)) _) | (refine Below.alloc ?_ (by first | omega | (simp; done) | (simp; omega)) _)))⟩
        case measure => simp [RowKit.intOf]; omega
    · obtain rfl : k = 8 := by omega
      have HR := Lib.hid hrel
      clear hrel
      go_wp2
      go_ret2
      exact ⟨jretL HR.out, hbel⟩
end Go.Proofs.YtbfalppeifkjdaaGreatDoor
end
section
namespace Go.Proofs.YtbfalppeifkjdaaGreatDoor
open Go.RowKit Go.Lib
theorem lf_facts (z : Int) : (letZ z ≠ 0 → lfL z escT = (letZ z, true) ∧ z ≠ 47) ∧ (letZ z = 0 → (lfL z escT).2 = false ∨ ((lfL z escT).2 = true ∧ z = 47)) := by
  rcases (by omega : z = 34 ∨ z = 92 ∨ z = 8 ∨ z = 9 ∨ z = 10 ∨ z = 12 ∨ z = 13 ∨ z = 47 ∨ (z ≠ 34 ∧ z ≠ 92 ∧ z ≠ 8 ∧ z ≠ 9 ∧ z ≠ 10 ∧ z ≠ 12 ∧ z ≠ 13 ∧ z ≠ 47)) with rfl | rfl | rfl | rfl | rfl | rfl | rfl | rfl | ⟨h1, h2, h3, h4, h5, h6, h7, h8⟩
  all_goals try decide
  have e : lfL z escT = (0, false) := by
    unfold escT
    simp only [lfL]
    rw [if_neg (by omega), if_neg (by omega), if_neg (by omega), if_neg (by omega), if_neg (by omega), if_neg (by omega), if_neg (by omega), if_neg (by omega)]
  have f : letZ z = 0 := by
    unfold letZ
    rw [if_neg (by omega), if_neg h3, if_neg h4, if_neg h5, if_neg h6, if_neg h7]
  exact ⟨fun h => absurd f h, fun _ => .inl (by rw [e])⟩
set_option maxRecDepth 100000 in
theorem jand15 : ∀ n : Fin 256, bits .and .u8 (n.val : Int) 15 = ((n.val % 16 : Nat) : Int) := by decide
set_option maxRecDepth 100000 in
set_option maxHeartbeats 16000000 in
theorem js_appendItem (B g cap : Nat) (acc : List UInt8) (x : UInt8) (w : World) (hB : B ≤ w.heap.size) (hal : acc.length ≤ 7000000)
    (hown : w.ownsRow B 5 1 (.slice (some ⟨g, 0, none⟩) acc.length cap) acc.length (u8s acc)) (hE : EscJ w) :
    Calls Tryz.prog 167 #[.slice (some ⟨g, 0, none⟩) acc.length cap, .int .u8 (x.toNat : Int)] w fun e w' => ∃ g2 cap2, e = .returned (.slice (some ⟨g2, 0, none⟩) (acc ++ itemJ x).length cap2) ∧ w'.ownsRow B 5 1 (.slice (some ⟨g2, 0, none⟩) (acc ++ itemJ x).length cap2) (acc ++ itemJ x).length (u8s (acc ++ itemJ x)) ∧ Below B w w' := by
  obtain ⟨i0, hi, hz0, hz1, hz2⟩ := info_parts jinfo_u8
  have hx8 := x.toNat_lt
  obtain ⟨z, hzx⟩ : ∃ z : Int, (x.toNat : Int) = z := ⟨_, rfl⟩
  have i2 := item_two x z hzx
  have i6 := item_six x z hzx
  have i1 := item_one x z hzx
  have cL : ∀ wx, EscJ wx → _ := fun wx => js_letterFor z wx
  obtain ⟨f1, f2⟩ := lf_facts z
  have h15 := jand15 ⟨x.toNat, hx8⟩
  simp only at h15
  rw [hzx, show ((x.toNat % 16 : Nat) : Int) = z % 16 by omega] at h15
  rw [hzx]
  have hz0' : 0 ≤ z := by omega
  have hz8 : z ≤ 255 := by omega
  have HOW := Lib.hid hown
  clear hzx hx8 hown
  by_cases hl : letZ z = 0
  · have f2 := f2 hl
    generalize lfL z escT = R at *
    obtain ⟨l, b⟩ := R
    simp only at cL f2
    by_cases h32 : z < 32
    · obtain ⟨hV, hlen⟩ := i6 hl h32
      have hb : b = false := by
        rcases f2 with h | ⟨_, h⟩
        · exact h
        · omega
      subst hb
      obtain ⟨q1, hq1⟩ : ∃ q, z / 16 = q := ⟨_, rfl⟩
      obtain ⟨q2, hq2⟩ : ∃ q, bits .and .u8 z 15 = q := ⟨_, rfl⟩
      have hx1 := fun w => hex_atZ q1 (by omega) (by omega) .u8 w
      have hx2 := fun w => hex_atZ q2 (by omega) (by omega) .u8 w
      rw [hq1, ← h15, hq2] at hV
      have HV := Lib.hid hV
      have HLEN := Lib.hid hlen
      clear i1 i2 i6 f1 f2 hl hV hlen h15
      generalize hexZ q1 = d1 at *
      generalize hexZ q2 = d2 at *
      go_enter Tryz.func167, Tryz.ntmps167
      go_wp2_with fail
      refine (cL _ hE).mono ?_
      rintro e wr ⟨rfl, b1⟩
      have z1 := b1.size
      have hown := jrow_below HOW.out b1
      have hown1 : ∀ o, (wr.alloc o).drew.ownsRow B 5 1 (.slice (some ⟨g, 0, none⟩) acc.length cap) acc.length (u8s acc) := fun o => hown.alloc o
      have hlt' := hown.lt
      clear hown
      go_wp2
      go_region_law ((refine step_append_lies _ rfl (.tmp 23) (.tmp 30) 81 rfl B 5 i0 (.int .u8 0) 1 1 Tryz.underlying81 hi hz0 hz1 hz2 rfl (by decide) (.slice (some ⟨g, 0, none⟩) acc.length cap) acc.length (u8s acc) (by simp [Act.eval]) (hown1 _) ⟨wr.heap.size, 0, none⟩ 6 6 [.int .u8 92, .int .u8 117, .int .u8 48, .int .u8 48, .int .u8 d1, .int .u8 d2] (by simp [Act.eval]) rfl (jnewsD _ _ _ _ rfl) (by intro u hu; simp at hu; rcases hu with rfl | rfl | rfl | rfl | rfl | rfl <;> rfl) (by decide) (by unfold maxLen; omega) (by omega) (by simp; omega) (wr.heap.size + 1) (by simp) ?_; intro g2 cap2 w2 hown2 hgr2 _ _))
      all_goals
        have hown3 := jrow_app HV.out rfl HLEN.out hown2
        have hb2 : Below B w w2 := (((b1.mono hB).alloc (by omega) _).drew).grown hgr2 (by simp; omega) (fun g' hg' => (hlt' g' hg').1)
        rw [show acc.length + 6 = (acc ++ itemJ x).length by rw [List.length_append, HLEN.out]]
        go_wp2
        go_ret
        exact ⟨g2, cap2, rfl, hown3, hb2⟩
    · obtain ⟨hV, hlen⟩ := i1 hl h32
      have HV := Lib.hid hV
      have HLEN := Lib.hid hlen
      rcases f2 with hb | ⟨hb, rfl⟩
      all_goals
        subst hb
        clear i1 i2 i6 f1 hl hV hlen h15
        go_enter Tryz.func167, Tryz.ntmps167
        go_wp2_with fail
        refine (cL _ hE).mono ?_
        rintro e wr ⟨rfl, b1⟩
        have z1 := b1.size
        have hown := jrow_below HOW.out b1
      · go_wp2_with (at_builtin; refine wpList_append_lies _ rfl (.tmp 32) (.tmp 34) 81 rfl B 5 i0 (.int .u8 0) 1 1 Tryz.underlying81 hi hz0 hz1 hz2 rfl (by decide) (.slice (some ⟨g, 0, none⟩) acc.length cap) acc.length (u8s acc) rfl (hown.alloc _) ⟨wr.heap.size, 0, none⟩ 1 1 [.int .u8 z] rfl rfl (jnews _ _ _ _ rfl) (by intro u hu; simp at hu; first | (subst hu; rfl) | (rcases hu with rfl | rfl <;> rfl)) (by decide) (by unfold maxLen; omega) (by omega) (by simp; omega) (wr.heap.size + 1) (by simp) ?_; intro g2 cap2 w2 hown2 hgr2 _ _)
        have hown3 := jrow_app HV.out rfl HLEN.out hown2
        have hb2 : Below B w w2 := ((b1.mono hB).alloc (by omega) _).grown hgr2 (by simp; omega) (fun g' hg' => (hown.lt g' hg').1)
        rw [show acc.length + 1 = (acc ++ itemJ x).length by rw [List.length_append, HLEN.out]]
        go_wp2
        go_ret
        exact ⟨g2, cap2, rfl, hown3, hb2⟩
      · go_wp2_with (at_builtin; refine wpList_append_lies _ rfl (.tmp 32) (.tmp 34) 81 rfl B 5 i0 (.int .u8 0) 1 1 Tryz.underlying81 hi hz0 hz1 hz2 rfl (by decide) (.slice (some ⟨g, 0, none⟩) acc.length cap) acc.length (u8s acc) rfl (hown.alloc _) ⟨wr.heap.size, 0, none⟩ 1 1 [.int .u8 47] rfl rfl (jnews _ _ _ _ rfl) (by intro u hu; simp at hu; first | (subst hu; rfl) | (rcases hu with rfl | rfl <;> rfl)) (by decide) (by unfold maxLen; omega) (by omega) (by simp; omega) (wr.heap.size + 1) (by simp) ?_; intro g2 cap2 w2 hown2 hgr2 _ _)
        have hown3 := jrow_app HV.out rfl HLEN.out hown2
        have hb2 : Below B w w2 := ((b1.mono hB).alloc (by omega) _).grown hgr2 (by simp; omega) (fun g' hg' => (hown.lt g' hg').1)
        rw [show acc.length + 1 = (acc ++ itemJ x).length by rw [List.length_append, HLEN.out]]
        go_wp2
        go_ret
        exact ⟨g2, cap2, rfl, hown3, hb2⟩
  · obtain ⟨hV, hlen⟩ := i2 hl
    obtain ⟨e1, e2⟩ := f1 hl
    rw [e1] at cL
    have HV := Lib.hid hV
    have HLEN := Lib.hid hlen
    clear i1 i2 i6 f1 f2 hV hlen h15 e1
    have hnb : (z != 47) = true := by simpa using e2
    generalize letZ z = lz at *
    go_enter Tryz.func167, Tryz.ntmps167
    go_wp2_with fail
    refine (cL _ hE).mono ?_
    rintro e wr ⟨rfl, b1⟩
    have z1 := b1.size
    have hown := jrow_below HOW.out b1
    go_wp2_with (at_builtin; refine wpList_append_lies _ rfl (.tmp 17) (.tmp 19) 81 rfl B 5 i0 (.int .u8 0) 1 1 Tryz.underlying81 hi hz0 hz1 hz2 rfl (by decide) (.slice (some ⟨g, 0, none⟩) acc.length cap) acc.length (u8s acc) rfl (hown.alloc _) ⟨wr.heap.size, 0, none⟩ 2 2 [.int .u8 92, .int .u8 lz] rfl rfl (jnews _ _ _ _ rfl) (by intro u hu; simp at hu; first | (subst hu; rfl) | (rcases hu with rfl | rfl <;> rfl)) (by decide) (by unfold maxLen; omega) (by omega) (by simp; omega) (wr.heap.size + 1) (by simp) ?_; intro g2 cap2 w2 hown2 hgr2 _ _)
    have hown3 := jrow_app HV.out rfl HLEN.out hown2
    have hb2 : Below B w w2 := ((b1.mono hB).alloc (by omega) _).grown hgr2 (by simp; omega) (fun g' hg' => (hown.lt g' hg').1)
    rw [show acc.length + 2 = (acc ++ itemJ x).length by rw [List.length_append, HLEN.out]]
    go_wp2
    go_ret
    exact ⟨g2, cap2, rfl, hown3, hb2⟩
theorem js_ValidString (s : ByteArray) (w : World) (hs : s.size ≤ 1000000) (hT : HasUtf8 w) : Calls Tryz.prog 153 #[.string s] w fun e w' => e = .returned (.bool (vaL s.data.toList)) ∧ Below w.heap.size w w' := by
  rw [← validD_eq]
  exact Any.utf8_ValidString Tryz.lays196 s w (by omega) hT
theorem EscJ_of {w w' : World} (h : EscJ w) (hb : Below w.heap.size w w') : EscJ w' := EscJ_below h hb
set_option maxRecDepth 100000 in
set_option maxHeartbeats 16000000 in
theorem js_QuoteE (s : ByteArray) (w : World) (hs : s.size ≤ 1000000) (hU : HasUtf8 w) (hE : EscJ w) :
    Calls Tryz.prog 159 #[.string s] w fun e w' => e = .returned (.tuple #[.string (ofBytes (quoteP s.data.toList).1), .int .i64 (quoteP s.data.toList).2]) ∧ Below w.heap.size w w' := by
  obtain ⟨i0, hi, hz0, hz1, hz2⟩ := info_parts jinfo_u8
  have HSL := Lib.hid (show s.data.toList.length = s.size by simp)
  have cV : ∀ wx, HasUtf8 wx → _ := fun wx => js_ValidString s wx hs
  have hq := quoteP.eq_1 s.data.toList
  rcases hv : vaL s.data.toList with _ | _
  · rw [hv] at cV
    rw [hv, if_neg (by decide)] at hq
    have HQ := Lib.hid hq
    clear hq hv hE
    go_enter Tryz.func159, Tryz.ntmps159
    go_wp2_with fail
    refine (cV _ hU).mono ?_
    rintro e w1 ⟨rfl, b1⟩
    go_wp2
    exact bodyPost_ret (v := .tuple #[.string (ofBytes []), .int .i64 5]) (by simp [results, Tryz.results159, go_sem]; rfl) rfl ⟨jretQ HQ.out rfl, b1⟩
  · rw [hv] at cV
    rw [hv, if_pos rfl] at hq
    have HQ := Lib.hid hq
    clear hq hv
    obtain ⟨B, hBw⟩ : ∃ B, B = w.heap.size := ⟨_, rfl⟩
    have cA : ∀ (g cap : Nat) (acc : List UInt8) (x : UInt8) (wx : World), Below B w wx → acc.length ≤ 7000000 → wx.ownsRow B 5 1 (.slice (some ⟨g, 0, none⟩) acc.length cap) acc.length (u8s acc) → _ := fun g cap acc x wx hb hl ho => js_appendItem B g cap acc x wx (by rw [hBw]; rw [hBw] at hb; exact hb.size) hl ho (EscJ_of hE (by rw [← hBw]; exact hb))
    have hU2 := hU
    clear hE
    go_enter Tryz.func159, Tryz.ntmps159
    go_wp2_with fail
    refine (cV _ hU).mono ?_
    rintro e w1 ⟨rfl, b1⟩
    have z1 := b1.size
    rw [← hBw] at z1 b1
    go_wp2_with (first
      | (refine wpList_make_own _ rfl (.const (.int .i64 0)) (.tmp 11) 81 rfl B 5 i0 (.int .u8 0) 1 Tryz.underlying81 hi hz0 hz1 .i64 .i64 _ (s.size + 2) rfl rfl (by omega) (by rw [hz2]; omega) (by unfold maxLen; omega) z1 ?_; intro wr hown hgr; have hbel : Below B w wr := b1.grown hgr z1 (fun k h => by cases h); have hz : B ≤ wr.heap.size := (by have := hbel.size; omega); have hwz : (wr.alloc (.cells #[.int .u8 34] 5)).heap.size = wr.heap.size + 1 := (by simp); clear hgr)
      | (at_builtin; refine wpList_append_lies _ rfl (.tmp 13) (.tmp 14) 81 rfl B 5 i0 (.int .u8 0) 1 1 Tryz.underlying81 hi hz0 hz1 hz2 rfl (by decide) (.slice (some ⟨w1.heap.size, 0, none⟩) 0 (s.size + 2)) 0 [] rfl (hown.alloc _) ⟨wr.heap.size, 0, none⟩ 1 1 [.int .u8 34] rfl rfl (jnews _ _ _ _ rfl) (by intro u hu; simp at hu; subst hu; rfl) (by decide) (by unfold maxLen; omega) (by omega) (by rw [hwz]; omega) (wr.heap.size + 1) hwz ?_; intro g2 cap2 w2 hown2 hgr2 _ _))
    have hb2 : Below B w w2 := (hbel.alloc hz _).grown hgr2 (by simp; omega) (fun g' hg' => (hown.lt g' hg').1)
    have hown3 : w2.ownsRow B 5 1 (.slice (some ⟨g2, 0, none⟩) 1 cap2) 1 (u8s [34]) := hown2
    clear hown hown2 hgr2 hbel hz hwz
    go_loopw [4, 5, 18] (fun v _ q wr => ∃ (k : Nat) (acc : List UInt8) (g cap : Nat), k ≤ s.size ∧ q = .int .i64 k ∧ v = .slice (some ⟨g, 0, none⟩) acc.length cap ∧ wr.ownsRow B 5 1 (.slice (some ⟨g, 0, none⟩) acc.length cap) acc.length (u8s acc) ∧ (quoteJ s.data.toList = acc ++ (itemsJ (s.data.toList.drop k) ++ [34]) ∧ acc.length ≤ 6 * k + 1) ∧ Below B w wr) (fun _ _ q _ => s.size - (RowKit.intOf q).toNat)
    case atStart => exact ⟨0, [34], g2, cap2, by omega, rfl, rfl, hown3, ⟨rfl, by simp⟩, hb2⟩
    case round =>
      obtain ⟨k, acc, g, cap, hk, rfl, rfl, hown, ⟨hrel, hal⟩, hbel⟩ := hrel
      have hz := hbel.size
      have hBz : B ≤ wr.heap.size := by omega
      clear hown3 hb2
      by_cases hlt : k < s.size
      · have hkl : k < s.data.toList.length := by have := HSL.out; omega
        have hg : s.data.toList.getD k 0 = s.data.toList[k] := by rw [List.getD_eq_getElem?_getD, List.getElem?_eq_getElem hkl]; rfl
        have hix := jix s .i64 (k : Int) k rfl hlt
        rw [List.drop_eq_getElem_cons hkl, ← hg, itemsJ_cons, List.append_assoc, ← List.append_assoc acc] at hrel
        generalize s.data.toList.getD k 0 = x at *
        have hkz : (k : Int) < (s.size : Int) := by omega
        have cA := cA g cap acc x wr hbel (by omega) hown
        have hil := itemJ_len x
        have hal2 : (acc ++ itemJ x).length ≤ 6 * (k + 1) + 1 := by rw [List.length_append]; omega
        have HR := Lib.hid hrel
        have HAL := Lib.hid hal2
        clear hrel hg hkl hil hal2 hal hown
        generalize acc ++ itemJ x = acc2 at *
        generalize (x.toNat : Int) = z at *
        go_wp2_with fail
        refine cA.mono ?_
        rintro e w3 ⟨g3, cap3, rfl, hown3, b3⟩
        have hb3 := hbel.trans b3
        clear cA
        go_wp2
        go_roundw
        case rel => exact ⟨k + 1, acc2, g3, cap3, by omega, by go_num, rfl, hown3, ⟨HR.out, HAL.out⟩, hb3⟩
        case measure => simp [RowKit.intOf]; omega
      · obtain rfl : k = s.size := by omega
        rw [List.drop_eq_nil_of_le (by have := HSL.out; omega), show itemsJ [] = [] from rfl, List.nil_append] at hrel
        have HR := Lib.hid hrel
        clear hrel cA
        go_wp2_with (at_builtin; refine wpList_append_lies _ rfl (.tmp 27) (.tmp 28) 81 rfl B 5 i0 (.int .u8 0) 1 1 Tryz.underlying81 hi hz0 hz1 hz2 rfl (by decide) (.slice (some ⟨g, 0, none⟩) acc.length cap) acc.length (u8s acc) rfl (hown.alloc _) ⟨wr.heap.size, 0, none⟩ 1 1 [.int .u8 34] rfl rfl (jnews _ _ _ _ rfl) (by intro u hu; simp at hu; first | (subst hu; rfl) | (rcases hu with rfl | rfl <;> rfl)) (by decide) (by unfold maxLen; omega) (by omega) (by simp; omega) (wr.heap.size + 1) (by simp) ?_; intro g2 cap2 w2 hown2 hgr2 _ _)
        have hown3 := jrow_app (l := [34]) rfl rfl rfl hown2
        have hb2 : Below B w w2 := (hbel.alloc hBz _).grown hgr2 (by simp; omega) (fun g' hg' => (hown.lt g' hg').1)
        have hconv := convert_own (P := Tryz.prog) (w := w2) (src := 81) (dst := 9) Tryz.underlying81 Tryz.underlying5 Tryz.underlying9 hown3
        rw [show (acc ++ [(34 : UInt8)]).length = acc.length + 1 by simp, ← HR.out] at hconv
        clear hown2 hown3
        go_wp2_with (rw [hconv])
        exact bodyPost_ret (v := .tuple #[.string (ofBytes (quoteJ s.data.toList)), .int .i64 0]) (by simp [results, Tryz.results159, go_sem]) rfl ⟨jretQ HQ.out rfl, by rw [← hBw]; exact hb2⟩
end Go.Proofs.YtbfalppeifkjdaaGreatDoor
end
section
namespace Go.Proofs.YtbfalppeifkjdaaGreatDoor
open Go.RowKit Go.Lib
theorem jfirst_data : (Rows.laid_unicode_utf8_first : DataW Unit) = firstData := Pinned.utf8First_eq
theorem jaccept_data : (Rows.laid_unicode_utf8_acceptRanges : DataW Unit) = acceptData := by kernel_rfl
theorem ju8extra : Go.Proofs.U8Extra Tryz.prog Tryz.lays196_ren := ⟨by kernel_rfl, by kernel_rfl, by kernel_rfl, by kernel_rfl, by kernel_rfl, by kernel_rfl, by kernel_rfl⟩
theorem jg_esc : Tryz.prog.globalNamed "feedvault/jsonstring.escapes" = some 3 := by kernel_rfl
theorem jgt_esc : (Tryz.prog.globals[(3 : Nat)]?).map (·.type) = some 219 := by kernel_rfl
theorem jcells_esc : Tryz.prog.cellsOf 218 = 2 := by kernel_rfl
theorem jcells_u8 : Tryz.prog.cellsOf 5 = 1 := by kernel_rfl
theorem jund_esc : ∃ fs : Array Field, Tryz.prog.underlying 218 = some (.struct fs) ∧ fs.size = 2 ∧ (∃ f, fs[0]? = some f ∧ f.type = 5 ∧ f.offset = 0) ∧ (∃ f, fs[1]? = some f ∧ f.type = 5 ∧ f.offset = 1) :=
  ⟨_, Tryz.underlying218, rfl, ⟨_, rfl, rfl, rfl⟩, ⟨_, rfl, rfl, rfl⟩⟩
def escD (x : Int × Int) : DataW Unit := .agg [.lit (.int .u8 x.1), .lit (.int .u8 x.2)]
theorem jesc_data : (Rows.laid_feedvault_jsonstring_escapes : DataW Unit) = .agg (escT.map escD) := by kernel_rfl
theorem jone_u8 {w : World} {m : Nat} {l : List Value} {x : DataW Unit × List MemPlace} {z : Int} (h : DataW.trod (fun _ => ()) Tryz.prog w 0 (fun _ => true) false m 5 l = some x) (hx : x.1 = .lit (.int .u8 z)) : l = [.int .u8 z] := by
  obtain ⟨n, rfl, rfl, _⟩ := DataW.trod_int Tryz.underlying5 h
  simp only [DataW.lit.injEq, Lit.int.injEq, true_and] at hx
  rw [hx]
theorem jlist_two {α : Type} {l : List α} (h : l.length = 2) : ∃ a b, l = [a, b] := by
  match l, h with
  | [a, b], _ => exact ⟨a, b, rfl⟩
set_option maxRecDepth 100000 in
theorem jesc_cells {w : World} {m : Nat} {ce : List Value} {b : DataW Unit × List MemPlace} {x : Int × Int} (h : DataW.trod (fun _ => ()) Tryz.prog w 0 (fun _ => true) false m 218 ce = some b) (hb : b.1 = escD x) :
    ce = [.int .u8 x.1, .int .u8 x.2] := by
  obtain ⟨fs, hfs, hsz, ⟨f0, e0, t0, o0⟩, ⟨f1, e1, t1, o1⟩⟩ := jund_esc
  obtain ⟨xs, n, rfl, rfl, hlen, hxs, hall⟩ := DataW.trod_struct hfs h
  rw [jcells_esc] at hlen
  rw [hsz] at hxs
  have a0 := hall 0 f0 e0
  have a1 := hall 1 f1 e1
  rw [t0, o0, jcells_u8] at a0
  rw [t1, o1, jcells_u8] at a1
  obtain ⟨y0, y1, rfl⟩ := jlist_two hxs
  obtain ⟨c0, c1, rfl⟩ := jlist_two hlen
  · simp only [escD, List.map_cons, List.map_nil, DataW.agg.injEq, List.cons.injEq, and_true] at hb
    have k0 := jone_u8 (x := y0) (z := x.1) (by simpa using a0) hb.1
    have k1 := jone_u8 (x := y1) (z := x.2) (by simpa using a1) hb.2
    simp at k0 k1
    rw [k0, k1]
theorem escT_at : ∀ i : Fin 8, escT[i.val]? = some (escT.getD i.val (0, 0)) := by decide
theorem esc_of_reads {w : World} (h : VarReads Tryz.prog w "feedvault/jsonstring.escapes" (.agg (escT.map escD))) : EscJ w := by
  obtain ⟨g, t, cs, fuel, p, hg, hty, hvar, hd⟩ := h
  obtain rfl := Option.some.inj (jg_esc.symm.trans hg)
  obtain rfl := Option.some.inj (jgt_esc.symm.trans hty)
  obtain ⟨xs, m, rfl, hx, hlen, hxs, hall⟩ := DataW.trod_array Tryz.underlying219 hd
  have e0 : xs.map (·.1) = escT.map escD := by
    have := congrArg Prod.fst hx
    simpa using this.symm
  intro i hi
  have hb : ∃ b, xs[i]? = some b ∧ b.1 = escD (escT.getD i (0, 0)) := by
    have h2 := congrArg (·[i]?) e0
    simp only [List.getElem?_map] at h2
    obtain ⟨b, hb⟩ : ∃ b, xs[i]? = some b := ⟨xs[i]'(by omega), List.getElem?_eq_getElem (by omega)⟩
    rw [hb, escT_at ⟨i, hi⟩] at h2
    exact ⟨b, hb, by simpa using h2⟩
  obtain ⟨b, hb, hb1⟩ := hb
  have h3 := hall i hi
  rw [hb, jcells_esc] at h3
  have h4 := jesc_cells h3 hb1
  generalize escT.getD i (0, 0) = lm at *
  have cell : ∀ j v, j < 2 → [Value.int .u8 lm.1, .int .u8 lm.2][j]? = some v → w.cell? ⟨3, i * 2 + j, none⟩ = some v := by
    intro j v hj hv
    rw [World.var?_cell hg hvar (i * 2 + j), ← hv, ← h4, List.getElem?_take, if_pos hj, List.getElem?_drop, Array.getElem?_toList]
  exact ⟨cell 0 _ (by omega) rfl, cell 1 _ (by omega) rfl⟩
end Go.Proofs.YtbfalppeifkjdaaGreatDoor
end
