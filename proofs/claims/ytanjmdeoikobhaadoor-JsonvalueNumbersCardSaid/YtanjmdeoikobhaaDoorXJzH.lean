/- Packed from the texts JzH. -/
import Derived.Test.YtanjmdeoikobhaaDoorXkP
import Derived.Laws.BytesArg
import Derived.KernelRfl
section
namespace Go.Proofs.YtanjmdeoikobhaaDoor
open Go.RowKit
theorem tw_all : ∀ l : List UInt8, (∀ c ∈ l, numP c = true) → l.takeWhile numP = l
  | [], _ => rfl
  | c :: r, h => by
    rw [List.takeWhile_cons, h c List.mem_cons_self]
    exact congrArg _ (tw_all r fun x hx => h x (List.mem_cons_of_mem _ hx))
def digitJ (z : Int) : UInt8 := UInt8.ofNat (48 + z % 10).toNat
theorem digitJ_nat (z : Int) : (digitJ z).toNat = (48 + z % 10).toNat := by
  unfold digitJ
  rw [UInt8.toNat_ofNat']
  omega
theorem digitJ_rng (z : Int) : 48 ≤ (digitJ z).toNat ∧ (digitJ z).toNat ≤ 57 := by
  rw [digitJ_nat z]
  omega
theorem numP_dig (c : UInt8) (h : 48 ≤ c.toNat ∧ c.toNat ≤ 57) : numP c = true := by
  unfold numP jnumB
  simp
  omega
theorem par_none : parR [] = (zeroVal, 0, 8) := by kernel_rfl
theorem num_parse (s : List UInt8) (hne : s ≠ []) (hall : ∀ c ∈ s, numP c = true) (hhd : s.getD 0 0 = 45 ∨ (48 ≤ (s.getD 0 0).toNat ∧ (s.getD 0 0).toNat ≤ 57)) :
    parR s = match jnumL s with
      | some n => (leafV 2 false n ⟨#[]⟩ 0, (s.length : Int), 0)
      | none => (zeroVal, 0, 15) := by
  have hp := List.length_pos_iff.2 hne
  obtain ⟨c, r, rfl⟩ : ∃ c r, s = c :: r := List.exists_cons_of_ne_nil hne
  have hg : (c :: r).getD 0 0 = c := rfl
  rw [hg] at hhd
  have hno : ∀ x : UInt8, x.toNat ≠ 45 → (x.toNat < 48 ∨ 57 < x.toNat) → c ≠ x := by
    intro x h1 h2 e
    subst e
    rcases hhd with h | h
    · rw [h] at h1; exact h1 rfl
    · omega
  have hsp : spP (c :: r) 0 = 0 := by
    refine spP_no (c :: r) 0 hp ?_
    show spB c = false
    rcases hhd with h | h
    · rw [h]; decide
    · exact Bool.eq_false_iff.2 fun e => by unfold spB isSpaceB at e; simp at e; omega
  have hbom : ¬ [239, 187, 191].isPrefixOf (c :: r) = true := by
    have e1 := hno 239 (by decide) (by decide)
    simp [List.isPrefixOf]
    exact fun e => absurd e.symm e1
  unfold parR tA
  rw [if_neg hbom, vA_eq, hsp, hA_eq _ _ _ hp, hg, if_neg (hno 110 (by decide) (by decide)), if_neg (hno 116 (by decide) (by decide)), if_neg (hno 102 (by decide) (by decide)), if_neg (hno 34 (by decide) (by decide)), if_neg (fun e => e.elim (hno 91 (by decide) (by decide)) (hno 123 (by decide) (by decide))), if_pos hhd, List.drop_zero]
  unfold numK
  rw [tw_all _ hall]
  cases jnumL (c :: r) with
  | none => rfl
  | some n =>
    show (match (if spP (c :: r) (0 + (c :: r).length) < (c :: r).length then Ares.err (spP (c :: r) (0 + (c :: r).length) : Nat) 17 else Ares.ok (leafV 2 false n ⟨#[]⟩ (0 : Nat)) (c :: r).length) with | .err a e => (zeroVal, a, e) | .ok v _ => (v, ((c :: r).length : Int), 0)) = _
    rw [if_neg (by rw [spP_end _ _ (by omega)]; omega)]
def preJ (neg : Bool) : List UInt8 := if neg then [45] else []
def numT (neg : Bool) (zs : List Int) : List UInt8 := preJ neg ++ zs.map digitJ
theorem numT_parse (neg : Bool) (zs : List Int) (h : numT neg zs ≠ []) : parR (numT neg zs) = match jnumL (numT neg zs) with
      | some n => (leafV 2 false n ⟨#[]⟩ 0, ((numT neg zs).length : Int), 0)
      | none => (zeroVal, 0, 15) := by
  refine num_parse _ h (fun c hc => ?_) ?_
  · unfold numT at hc
    rcases List.mem_append.1 hc with hc | hc
    · cases neg with
      | false => cases hc
      | true =>
        obtain rfl : c = 45 := by simpa [preJ] using hc
        decide
    · obtain ⟨z, -, rfl⟩ := List.mem_map.1 hc
      exact numP_dig _ (digitJ_rng z)
  · cases neg with
    | true => exact .inl rfl
    | false =>
      cases zs with
      | nil => exact absurd rfl h
      | cons z r => exact .inr (digitJ_rng z)
theorem numT_len (neg : Bool) (zs : List Int) : (numT neg zs).length ≤ zs.length + 1 := by
  unfold numT preJ
  rw [List.length_append, List.length_map]
  cases neg
  · show 0 + _ ≤ _; omega
  · show 1 + _ ≤ _; omega
end Go.Proofs.YtanjmdeoikobhaaDoor
end
