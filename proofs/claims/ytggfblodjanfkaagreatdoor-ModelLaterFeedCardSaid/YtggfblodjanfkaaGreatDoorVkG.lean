/- Packed from the texts JsF. -/
import Derived.Test.YtggfblodjanfkaaGreatDoorVShelf
import Derived.Test.YtggfblodjanfkaaGreatDoorVkB
import Derived.Test.YtggfblodjanfkaaGreatDoorVkC
import Derived.Test.YtggfblodjanfkaaGreatDoorVkE
import Derived.Test.YtggfblodjanfkaaGreatDoorVkF
import Derived.Deep.QuietTactic
import Derived.BigQuiet
import Derived.WalkSmall
import Derived.Lib.ConvBytes
import Derived.Laws.Closers25
import Derived.Laws.Closers25b
import Derived.BigCall
import Derived.BigGuard
section
namespace Go.Proofs.YtggfblodjanfkaaGreatDoor
open Go.RowKit
def escT : List (Int × Int) := [(34, 34), (92, 92), (47, 47), (98, 8), (102, 12), (110, 10), (114, 13), (116, 9)]
def escV : Value := .agg #[.int .u8 34, .int .u8 34, .int .u8 92, .int .u8 92, .int .u8 47, .int .u8 47, .int .u8 98, .int .u8 8, .int .u8 102, .int .u8 12, .int .u8 110, .int .u8 10, .int .u8 114, .int .u8 13, .int .u8 116, .int .u8 9]
def EscJ (w : World) : Prop := ∀ i, i < 8 → w.cell? ⟨3, i * 2, none⟩ = some (.int .u8 (escT.getD i (0, 0)).1) ∧ w.cell? ⟨3, i * 2 + 1, none⟩ = some (.int .u8 (escT.getD i (0, 0)).2)
theorem jblock_lt {w : World} {a : Addr} {v : Value} (hc : w.cell? a = some v) : a.block < w.heap.size := by
  rcases Nat.lt_or_ge a.block w.heap.size with h' | h'
  · exact h'
  · simp [World.cell?, Array.getElem?_eq_none h'] at hc
theorem EscJ_below {w w' : World} (h : EscJ w) (hb : Below w.heap.size w w') : EscJ w' := fun i hi => by
  obtain ⟨h1, h2⟩ := h i hi
  exact ⟨(hb.cell (jblock_lt h1)).trans h1, (hb.cell (jblock_lt h2)).trans h2⟩
def lfL (c : Int) : List (Int × Int) → Int × Bool
  | [] => (0, false)
  | (l, m) :: r => if m = c then (l, true) else lfL c r
theorem escT_drop : ∀ k : Fin 8, escT.drop k.val = (escT.getD k.val (0, 0)) :: escT.drop (k.val + 1) := by decide
theorem escV_at (k : Nat) (h : k < 8) (w : World) : (Instr.index 156 escV (.int .i64 (k : Int))).run Tryz.prog w = .ok (.agg #[.int .u8 (escT.getD k (0, 0)).1, .int .u8 (escT.getD k (0, 0)).2]) w := by
  have h0 : ∀ wx, (Instr.index 156 (.agg #[.int .u8 34, .int .u8 34, .int .u8 92, .int .u8 92, .int .u8 47, .int .u8 47, .int .u8 98, .int .u8 8, .int .u8 102, .int .u8 12, .int .u8 110, .int .u8 10, .int .u8 114, .int .u8 13, .int .u8 116, .int .u8 9]) (.int .i64 0)).run Tryz.prog wx = .ok (.agg #[.int .u8 34, .int .u8 34]) wx := fun _ => by kernel_rfl
  have h1 : ∀ wx, (Instr.index 156 (.agg #[.int .u8 34, .int .u8 34, .int .u8 92, .int .u8 92, .int .u8 47, .int .u8 47, .int .u8 98, .int .u8 8, .int .u8 102, .int .u8 12, .int .u8 110, .int .u8 10, .int .u8 114, .int .u8 13, .int .u8 116, .int .u8 9]) (.int .i64 1)).run Tryz.prog wx = .ok (.agg #[.int .u8 92, .int .u8 92]) wx := fun _ => by kernel_rfl
  have h2 : ∀ wx, (Instr.index 156 (.agg #[.int .u8 34, .int .u8 34, .int .u8 92, .int .u8 92, .int .u8 47, .int .u8 47, .int .u8 98, .int .u8 8, .int .u8 102, .int .u8 12, .int .u8 110, .int .u8 10, .int .u8 114, .int .u8 13, .int .u8 116, .int .u8 9]) (.int .i64 2)).run Tryz.prog wx = .ok (.agg #[.int .u8 47, .int .u8 47]) wx := fun _ => by kernel_rfl
  have h3 : ∀ wx, (Instr.index 156 (.agg #[.int .u8 34, .int .u8 34, .int .u8 92, .int .u8 92, .int .u8 47, .int .u8 47, .int .u8 98, .int .u8 8, .int .u8 102, .int .u8 12, .int .u8 110, .int .u8 10, .int .u8 114, .int .u8 13, .int .u8 116, .int .u8 9]) (.int .i64 3)).run Tryz.prog wx = .ok (.agg #[.int .u8 98, .int .u8 8]) wx := fun _ => by kernel_rfl
  have h4 : ∀ wx, (Instr.index 156 (.agg #[.int .u8 34, .int .u8 34, .int .u8 92, .int .u8 92, .int .u8 47, .int .u8 47, .int .u8 98, .int .u8 8, .int .u8 102, .int .u8 12, .int .u8 110, .int .u8 10, .int .u8 114, .int .u8 13, .int .u8 116, .int .u8 9]) (.int .i64 4)).run Tryz.prog wx = .ok (.agg #[.int .u8 102, .int .u8 12]) wx := fun _ => by kernel_rfl
  have h5 : ∀ wx, (Instr.index 156 (.agg #[.int .u8 34, .int .u8 34, .int .u8 92, .int .u8 92, .int .u8 47, .int .u8 47, .int .u8 98, .int .u8 8, .int .u8 102, .int .u8 12, .int .u8 110, .int .u8 10, .int .u8 114, .int .u8 13, .int .u8 116, .int .u8 9]) (.int .i64 5)).run Tryz.prog wx = .ok (.agg #[.int .u8 110, .int .u8 10]) wx := fun _ => by kernel_rfl
  have h6 : ∀ wx, (Instr.index 156 (.agg #[.int .u8 34, .int .u8 34, .int .u8 92, .int .u8 92, .int .u8 47, .int .u8 47, .int .u8 98, .int .u8 8, .int .u8 102, .int .u8 12, .int .u8 110, .int .u8 10, .int .u8 114, .int .u8 13, .int .u8 116, .int .u8 9]) (.int .i64 6)).run Tryz.prog wx = .ok (.agg #[.int .u8 114, .int .u8 13]) wx := fun _ => by kernel_rfl
  have h7 : ∀ wx, (Instr.index 156 (.agg #[.int .u8 34, .int .u8 34, .int .u8 92, .int .u8 92, .int .u8 47, .int .u8 47, .int .u8 98, .int .u8 8, .int .u8 102, .int .u8 12, .int .u8 110, .int .u8 10, .int .u8 114, .int .u8 13, .int .u8 116, .int .u8 9]) (.int .i64 7)).run Tryz.prog wx = .ok (.agg #[.int .u8 116, .int .u8 9]) wx := fun _ => by kernel_rfl
  rcases (by omega : k = 0 ∨ k = 1 ∨ k = 2 ∨ k = 3 ∨ k = 4 ∨ k = 5 ∨ k = 6 ∨ k = 7) with rfl | rfl | rfl | rfl | rfl | rfl | rfl | rfl
  · exact h0 w
  · exact h1 w
  · exact h2 w
  · exact h3 w
  · exact h4 w
  · exact h5 w
  · exact h6 w
  · exact h7 w
theorem jretL {a : Int} {b : Bool} {p : Int × Bool} (h : p = (a, b)) : Ending.returned (.tuple #[.int .u8 a, .bool b]) = .returned (.tuple #[.int .u8 p.1, .bool p.2]) := by subst h; rfl
set_option maxRecDepth 100000 in
set_option maxHeartbeats 8000000 in
theorem js_letterFor (c : Int) (w : World) (hT : EscJ w) :
    Calls Tryz.prog 115 #[.int .u8 c] w fun e w' => e = .returned (.tuple #[.int .u8 (lfL c escT).1, .bool (lfL c escT).2]) ∧ Below w.heap.size w w' := by
  have c0 : w.cell? ⟨3, 0, none⟩ = some (.int .u8 34) := (hT 0 (by decide)).1
  have c1 : w.cell? ⟨3, 1, none⟩ = some (.int .u8 34) := (hT 0 (by decide)).2
  have c2 : w.cell? ⟨3, 2, none⟩ = some (.int .u8 92) := (hT 1 (by decide)).1
  have c3 : w.cell? ⟨3, 3, none⟩ = some (.int .u8 92) := (hT 1 (by decide)).2
  have c4 : w.cell? ⟨3, 4, none⟩ = some (.int .u8 47) := (hT 2 (by decide)).1
  have c5 : w.cell? ⟨3, 5, none⟩ = some (.int .u8 47) := (hT 2 (by decide)).2
  have c6 : w.cell? ⟨3, 6, none⟩ = some (.int .u8 98) := (hT 3 (by decide)).1
  have c7 : w.cell? ⟨3, 7, none⟩ = some (.int .u8 8) := (hT 3 (by decide)).2
  have c8 : w.cell? ⟨3, 8, none⟩ = some (.int .u8 102) := (hT 4 (by decide)).1
  have c9 : w.cell? ⟨3, 9, none⟩ = some (.int .u8 12) := (hT 4 (by decide)).2
  have c10 : w.cell? ⟨3, 10, none⟩ = some (.int .u8 110) := (hT 5 (by decide)).1
  have c11 : w.cell? ⟨3, 11, none⟩ = some (.int .u8 10) := (hT 5 (by decide)).2
  have c12 : w.cell? ⟨3, 12, none⟩ = some (.int .u8 114) := (hT 6 (by decide)).1
  have c13 : w.cell? ⟨3, 13, none⟩ = some (.int .u8 13) := (hT 6 (by decide)).2
  have c14 : w.cell? ⟨3, 14, none⟩ = some (.int .u8 116) := (hT 7 (by decide)).1
  have c15 : w.cell? ⟨3, 15, none⟩ = some (.int .u8 9) := (hT 7 (by decide)).2
  clear hT
  go_enter Tryz.func115, Tryz.ntmps115
  go_wp2
  rw [show (.agg #[.int .u8 34, .int .u8 34, .int .u8 92, .int .u8 92, .int .u8 47, .int .u8 47, .int .u8 98, .int .u8 8, .int .u8 102, .int .u8 12, .int .u8 110, .int .u8 10, .int .u8 114, .int .u8 13, .int .u8 116, .int .u8 9] : Value) = escV from rfl]
  go_loopw [7] (fun q wr => ∃ k : Nat, k ≤ 8 ∧ q = .int .i64 k ∧ lfL c escT = lfL c (escT.drop k) ∧ Below w.heap.size w wr) (fun q _ => 8 - (RowKit.intOf q).toNat)
  case atStart => exact ⟨0, by omega, rfl, rfl, Below.refl _ _⟩
  case round =>
    obtain ⟨k, hk, rfl, hrel, hbel⟩ := hrel
    have hz := hbel.size
    clear c0 c1 c2 c3 c4 c5 c6 c7 c8 c9 c10 c11 c12 c13 c14 c15
    by_cases hlt : k < 8
    · have hix := escV_at k hlt
      have hd := escT_drop ⟨k, hlt⟩
      simp only at hd
      rw [hd] at hrel
      generalize escT.getD k (0, 0) = lm at *
      obtain ⟨l, m⟩ := lm
      rw [lfL] at hrel
      simp only at hix
      have hlz : (k : Int) < 8 := by omega
      clear hd
      generalize escV = V at *
      by_cases hm : m = c
      · rw [if_pos hm] at hrel
        have HR := Lib.hid hrel
        have hmb : (m == c) = true := by simpa using hm
        clear hrel hm
        go_wp2
        go_ret2
        exact ⟨jretL HR.out, by (repeat (first | exact hbel | apply Below.drew | (refine Below.setCell ?_ (by first | omega | (simp; done) | (simp; omega)) _) | (refine Below.alloc ?_ (by first | omega | (simp; done) | (simp; omega)) _)))⟩
      · rw [if_neg hm] at hrel
        have HR := Lib.hid hrel
        have hmb : (m == c) = false := by simpa using hm
        clear hrel
        go_wp2
        go_roundw
        case rel => exact ⟨k + 1, by omega, by go_num, HR.out, by (repeat (first | exact hbel | apply Below.drew | (refine Below.setCell ?_ (by first | omega | (simp; done) | (simp; omega)) _) | (refine Below.alloc ?_ (by first | omega | (simp; done) | (simp; omega)) _)))⟩
        case measure => simp [RowKit.intOf]; omega
    · obtain rfl : k = 8 := by omega
      have HR := Lib.hid hrel
      clear hrel
      go_wp2
      go_ret2
      exact ⟨jretL HR.out, hbel⟩
end Go.Proofs.YtggfblodjanfkaaGreatDoor
end
