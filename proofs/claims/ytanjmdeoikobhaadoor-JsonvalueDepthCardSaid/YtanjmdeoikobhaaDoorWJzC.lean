/- Packed from the texts JzC. -/
import Derived.Test.YtanjmdeoikobhaaDoorWJpT
import Derived.Test.YtanjmdeoikobhaaDoorWJpW
import Derived.Test.YtanjmdeoikobhaaDoorWJvH
import Derived.Test.YtanjmdeoikobhaaDoorWkP
import Derived.Test.YtanjmdeoikobhaaDoorWkQ
import Derived.Test.YtanjmdeoikobhaaDoorWkS
section
namespace Go.Proofs.YtanjmdeoikobhaaDoor
open Go.RowKit
theorem stripVs_len (l : List ValD) : (stripVs l).length = l.length := by rw [stripVs_map, List.length_map]
theorem stripMs_len (l : List MemD) : (stripMs l).length = l.length := by rw [stripMs_map, List.length_map]
mutual
theorem veq_strip : ∀ n : ValD, n.eqB false (stripV n) = true
  | .mk k b n s items mems a => by
    rw [ValD.eqB, stripV]
    have h1 : vheadEq false (.mk k b n s items mems a) (.mk k b n s (stripVs items) (stripMs mems) 0) = true := decide_eq_true ⟨rfl, rfl, rfl, rfl, (fun h => by cases h), by show items.length = (stripVs items).length; rw [stripVs_len], by show mems.length = (stripMs mems).length; rw [stripMs_len]⟩
    rw [h1, Bool.true_and]
    show (vsEq false items (stripVs items) && msEq false mems (stripMs mems)) = true
    rw [vseq_strip items, mseq_strip mems]
    rfl
theorem vseq_strip : ∀ l : List ValD, vsEq false l (stripVs l) = true
  | [] => by rw [vsEq]
  | k :: r => by rw [stripVs, vsEq, veq_strip k, vseq_strip r]; rfl
theorem mseq_strip : ∀ l : List MemD, msEq false l (stripMs l) = true
  | [] => by rw [msEq]
  | k :: r => by rw [stripMs, msEq, meq_strip k, mseq_strip r]; rfl
theorem meq_strip : ∀ m : MemD, m.eqB false (stripM m) = true
  | .mk key v a => by
    rw [stripM, MemD.eqB]
    have h1 : decide (key = (MemD.mk key (stripV v) 0).key ∧ (false = true → a = (MemD.mk key (stripV v) 0).at')) = true := decide_eq_true ⟨rfl, fun h => by cases h⟩
    rw [h1, Bool.true_and]
    exact veq_strip v
end
mutual
theorem veq_self (off : Bool) : ∀ n : ValD, n.eqB off n = true
  | .mk k b n s items mems a => by
    rw [ValD.eqB]
    have h1 : vheadEq off (.mk k b n s items mems a) (.mk k b n s items mems a) = true := decide_eq_true ⟨rfl, rfl, rfl, rfl, fun _ => rfl, rfl, rfl⟩
    rw [h1, Bool.true_and]
    show (vsEq off items items && msEq off mems mems) = true
    rw [vseq_self off items, mseq_self off mems]
    rfl
theorem vseq_self (off : Bool) : ∀ l : List ValD, vsEq off l l = true
  | [] => by rw [vsEq]
  | k :: r => by rw [vsEq, veq_self off k, vseq_self off r]; rfl
theorem mseq_self (off : Bool) : ∀ l : List MemD, msEq off l l = true
  | [] => by rw [msEq]
  | k :: r => by rw [msEq, meq_self off k, mseq_self off r]; rfl
theorem meq_self (off : Bool) : ∀ m : MemD, m.eqB off m = true
  | .mk key v a => by
    rw [MemD.eqB]
    have h1 : decide (key = (MemD.mk key v a).key ∧ (off = true → a = (MemD.mk key v a).at')) = true := decide_eq_true ⟨rfl, fun _ => rfl⟩
    rw [h1, Bool.true_and]
    exact veq_self off v
end
mutual
theorem vzero_strip : ∀ n : ValD, (stripV n).zeroB = true
  | .mk k b n s items mems a => by
    rw [stripV, ValD.zeroB, vszero_strip items, mszero_strip mems]
    rfl
theorem vszero_strip : ∀ l : List ValD, zeroVs (stripVs l) = true
  | [] => by rw [stripVs, zeroVs]
  | k :: r => by rw [stripVs, zeroVs, vzero_strip k, vszero_strip r]; rfl
theorem mszero_strip : ∀ l : List MemD, zeroMs (stripMs l) = true
  | [] => by rw [stripMs, zeroMs]
  | k :: r => by rw [stripMs, zeroMs, mzero_strip k, mszero_strip r]; rfl
theorem mzero_strip : ∀ m : MemD, (stripM m).zeroB = true
  | .mk key v a => by
    rw [stripM, MemD.zeroB, vzero_strip v]
    rfl
end
mutual
theorem vcnt_strip : ∀ n : ValD, (stripV n).cnt = n.cnt
  | .mk k b n s items mems a => by rw [stripV, ValD.cnt, ValD.cnt, vscnt_strip items, mscnt_strip mems]
theorem vscnt_strip : ∀ l : List ValD, vcnts (stripVs l) = vcnts l
  | [] => by rw [stripVs]
  | k :: r => by rw [stripVs, vcnts, vcnts, vcnt_strip k, vscnt_strip r]
theorem mscnt_strip : ∀ l : List MemD, mcnts (stripMs l) = mcnts l
  | [] => by rw [stripMs]
  | k :: r => by rw [stripMs, mcnts, mcnts, mcnt_strip k, mscnt_strip r]
theorem mcnt_strip : ∀ m : MemD, (stripM m).cnt = m.cnt
  | .mk key v a => by rw [stripM, MemD.cnt, MemD.cnt, vcnt_strip v]
end
def gotD (n : ValD) (k : ByteArray) : ValD := (getV n k).getD zeroVal
theorem zero_is (w : World) : ValIs w zeroVal zeroJ := (val_is w _ _).2 ⟨none, 0, none, 0, rfl, by show ItemsAt w none 0 []; rw [ItemsAt]; trivial, by show MemsAt w none 0 []; rw [MemsAt]; trivial⟩
theorem got_is {w : World} {n : ValD} {k : ByteArray} {x : Value} (h : GotV w (getV n k) x) : ValIs w (gotD n k) x := by
  unfold gotD
  cases hh : getV n k with
  | none =>
    rw [hh] at h
    rw [show x = zeroJ from h]
    exact zero_is w
  | some v =>
    rw [hh] at h
    exact h
theorem getL_mem (k : ByteArray) : ∀ (l : List MemD) (v : ValD), getL k l = some v → ∃ m ∈ l, m.v = v
  | [], v, h => by cases h
  | m :: r, v, h => by
    rw [getL] at h
    split at h
    · exact ⟨m, List.mem_cons_self, by injection h⟩
    · obtain ⟨m', hm, hv⟩ := getL_mem k r v h
      exact ⟨m', List.mem_cons_of_mem _ hm, hv⟩
theorem got_cnt (n : ValD) (k : ByteArray) : (gotD n k).cnt ≤ n.cnt := by
  unfold gotD
  have hn := vcnt_eq n
  cases hh : getV n k with
  | none =>
    show zeroVal.cnt ≤ _
    have : zeroVal.cnt = 1 := by rw [vcnt_eq]; rfl
    omega
  | some v =>
    show v.cnt ≤ _
    unfold getV at hh
    split at hh
    · obtain ⟨m, hm, rfl⟩ := getL_mem k _ v hh
      have := vcnt_mem n m hm
      omega
    · cases hh
def JBox (x : World) (b : Nat) (n : ValD) (p : Option Addr) (c : Nat) (q : Option Addr) (d : Nat) : Prop := x.cell? ⟨b, 0, none⟩ = some (.int .i64 n.kind) ∧ x.cell? ⟨b, 1, none⟩ = some (.bool n.b) ∧ x.cell? ⟨b, 2, none⟩ = some (.int .i64 n.n) ∧ x.cell? ⟨b, 3, none⟩ = some (.string n.s) ∧ x.cell? ⟨b, 4, none⟩ = some (.slice p n.items.length c) ∧ x.cell? ⟨b, 5, none⟩ = some (.slice q n.mems.length d) ∧ x.cell? ⟨b, 6, none⟩ = some (.int .i64 n.at')
theorem JBox.below {x y : World} {b : Nat} {n : ValD} {p : Option Addr} {c : Nat} {q : Option Addr} {d : Nat} (h : JBox x b n p c q d) (hb : Below x.heap.size x y) : JBox y b n p c q d := by
  obtain ⟨h0, h1, h2, h3, h4, h5, h6⟩ := h
  exact ⟨(hb.cell (vblock_lt h0)).trans h0, (hb.cell (vblock_lt h1)).trans h1, (hb.cell (vblock_lt h2)).trans h2, (hb.cell (vblock_lt h3)).trans h3, (hb.cell (vblock_lt h4)).trans h4, (hb.cell (vblock_lt h5)).trans h5, (hb.cell (vblock_lt h6)).trans h6⟩
theorem JBox.of {x : World} {b : Nat} {n : ValD} {p : Option Addr} {c : Nat} {q : Option Addr} {d : Nat} {T : TypeId} (h : Bj x b #[.int .i64 n.kind, .bool n.b, .int .i64 n.n, .string n.s, .slice p n.items.length c, .slice q n.mems.length d, .int .i64 n.at'] T) : JBox x b n p c q d :=
  ⟨h.cell 0, h.cell 1, h.cell 2, h.cell 3, h.cell 4, h.cell 5, h.cell 6⟩
theorem jval_form {w : World} {n : ValD} {v : Value} (h : ValIs w n v) : ∃ p c q d, v = .agg #[.int .i64 n.kind, .bool n.b, .int .i64 n.n, .string n.s, .slice p n.items.length c, .slice q n.mems.length d, .int .i64 n.at'] := by
  obtain ⟨p, c, q, d, hv, -, -⟩ := (val_is w n v).1 h
  exact ⟨p, c, q, d, hv⟩
theorem jp_Got (n : ValD) (v : Value) (k : ByteArray) (w : World) (hml : n.mems.length ≤ 140737488351232) (hn : ValIs w n v) :
    Calls Tryd.prog 8 #[v, .string k] w fun e w' => (∃ x, e = .returned (.tuple #[x, .bool (getV n k).isSome]) ∧ ValIs w' (gotD n k) x) ∧ Below w.heap.size w w' :=
  (jp_Get n v k w hml hn).mono fun _ _ ⟨⟨x, he, hx⟩, hb⟩ => ⟨⟨x, he, got_is hx⟩, hb⟩
theorem jref_Got (n : ValD) (v : Value) (k : ByteArray) (w : World) (hml : n.mems.length ≤ 140737488351232) (hn : ValIs w n v) :
    Calls Tryd.prog 9 #[v, .string k] w fun e w' => (∃ x, e = .returned (.tuple #[x, .bool (getV n k).isSome]) ∧ ValIs w' (gotD n k) x) ∧ Below w.heap.size w w' :=
  (jref_Get n v k w hml hn).mono fun _ _ ⟨⟨x, he, hx⟩, hb⟩ => ⟨⟨x, he, got_is hx⟩, hb⟩
theorem jp_Stripped (n : ValD) (v : Value) (w : World) (hc : n.cnt ≤ 1000000) (hn : ValIs w n v) :
    Calls Tryd.prog 10 #[v] w fun e w' => (∃ x, e = .returned x ∧ ValIs w' (stripV n) x) ∧ Below w.heap.size w w' :=
  (jp_Strip n.cnt n (Nat.le_refl _) hc v w hn).mono fun _ _ ⟨⟨x, he, hx⟩, hb⟩ => ⟨⟨x, he, hx.full⟩, hb⟩
end Go.Proofs.YtanjmdeoikobhaaDoor
end
