/- Packed from the texts JzC. -/
import Derived.Test.YtdooadalkbghgaaDoorVJpT
import Derived.Test.YtdooadalkbghgaaDoorVJpW
import Derived.Test.YtdooadalkbghgaaDoorVJvH
import Derived.Test.YtdooadalkbghgaaDoorVkP
import Derived.Test.YtdooadalkbghgaaDoorVkQ
import Derived.Test.YtdooadalkbghgaaDoorVkS
section
namespace Go.Proofs.YtdooadalkbghgaaDoor
open Go.RowKit
mutual
theorem veq_self (off : Bool) : ∀ n : ValD, n.eqB off n = true
  | .mk k b n s items mems a => by
    rw [ValD.eqB]
    have h1 : vheadEq off (.mk k b n s items mems a) (.mk k b n s items mems a) = true := decide_eq_true ⟨rfl, rfl, rfl, rfl, fun _ => rfl, rfl, rfl⟩
    rw [h1, Bool.true_and]
    show (vsEq off items items && msEq off mems mems) = true
    rw [vseq_self off items, mseq_self off mems]
    rfl
theorem vseq_self (off : Bool) : ∀ l : List ValD, vsEq off l l = true
  | [] => by rw [vsEq]
  | k :: r => by rw [vsEq, veq_self off k, vseq_self off r]; rfl
theorem mseq_self (off : Bool) : ∀ l : List MemD, msEq off l l = true
  | [] => by rw [msEq]
  | k :: r => by rw [msEq, meq_self off k, mseq_self off r]; rfl
theorem meq_self (off : Bool) : ∀ m : MemD, m.eqB off m = true
  | .mk key v a => by
    rw [MemD.eqB]
    have h1 : decide (key = (MemD.mk key v a).key ∧ (off = true → a = (MemD.mk key v a).at')) = true := decide_eq_true ⟨rfl, fun _ => rfl⟩
    rw [h1, Bool.true_and]
    exact veq_self off v
end
def JBox (x : World) (b : Nat) (n : ValD) (p : Option Addr) (c : Nat) (q : Option Addr) (d : Nat) : Prop := x.cell? ⟨b, 0, none⟩ = some (.int .i64 n.kind) ∧ x.cell? ⟨b, 1, none⟩ = some (.bool n.b) ∧ x.cell? ⟨b, 2, none⟩ = some (.int .i64 n.n) ∧ x.cell? ⟨b, 3, none⟩ = some (.string n.s) ∧ x.cell? ⟨b, 4, none⟩ = some (.slice p n.items.length c) ∧ x.cell? ⟨b, 5, none⟩ = some (.slice q n.mems.length d) ∧ x.cell? ⟨b, 6, none⟩ = some (.int .i64 n.at')
theorem JBox.below {x y : World} {b : Nat} {n : ValD} {p : Option Addr} {c : Nat} {q : Option Addr} {d : Nat} (h : JBox x b n p c q d) (hb : Below x.heap.size x y) : JBox y b n p c q d := by
  obtain ⟨h0, h1, h2, h3, h4, h5, h6⟩ := h
  exact ⟨(hb.cell (vblock_lt h0)).trans h0, (hb.cell (vblock_lt h1)).trans h1, (hb.cell (vblock_lt h2)).trans h2, (hb.cell (vblock_lt h3)).trans h3, (hb.cell (vblock_lt h4)).trans h4, (hb.cell (vblock_lt h5)).trans h5, (hb.cell (vblock_lt h6)).trans h6⟩
theorem JBox.of {x : World} {b : Nat} {n : ValD} {p : Option Addr} {c : Nat} {q : Option Addr} {d : Nat} {T : TypeId} (h : Bj x b #[.int .i64 n.kind, .bool n.b, .int .i64 n.n, .string n.s, .slice p n.items.length c, .slice q n.mems.length d, .int .i64 n.at'] T) : JBox x b n p c q d :=
  ⟨h.cell 0, h.cell 1, h.cell 2, h.cell 3, h.cell 4, h.cell 5, h.cell 6⟩
theorem jval_form {w : World} {n : ValD} {v : Value} (h : ValIs w n v) : ∃ p c q d, v = .agg #[.int .i64 n.kind, .bool n.b, .int .i64 n.n, .string n.s, .slice p n.items.length c, .slice q n.mems.length d, .int .i64 n.at'] := by
  obtain ⟨p, c, q, d, hv, -, -⟩ := (val_is w n v).1 h
  exact ⟨p, c, q, d, hv⟩
end Go.Proofs.YtdooadalkbghgaaDoor
end
