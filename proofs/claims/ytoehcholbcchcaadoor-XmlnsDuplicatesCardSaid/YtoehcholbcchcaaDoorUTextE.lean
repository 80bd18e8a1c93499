/- Packed from the texts TextE. -/
import Derived.Test.YtoehcholbcchcaaDoorUKit
import Derived.Test.YtoehcholbcchcaaDoorUTextA
import Derived.Deep.RegionWith
section
namespace Go.Proofs.YtoehcholbcchcaaDoor
open Go.RowKit
def sp (c : UInt8) : Bool := isSpaceB (c.toNat : Int)
def colGo : Bool → Bool → List UInt8 → List UInt8
  | _, _, [] => []
  | st, pv, c :: r => if sp c then colGo st true r else if st && pv then 32 :: c :: colGo true false r else c :: colGo true false r
def collapse (l : List UInt8) : List UInt8 := colGo false false l
def pvAt (l : List UInt8) (k : Nat) : Bool := match k with | 0 => false | j + 1 => sp (l.getD j 0)
theorem pvAt_succ (l : List UInt8) (j : Nat) : pvAt l (j + 1) = sp (l.getD j 0) := rfl
theorem drop_at (l : List UInt8) (k : Nat) (h : k < l.length) : l.drop k = l[k] :: l.drop (k + 1) := List.drop_eq_getElem_cons h
theorem getD_at (l : List UInt8) (k : Nat) (h : k < l.length) : l.getD k 0 = l[k] := by simp [List.getD, h]
def ColRel (l acc : List UInt8) (k : Nat) : Prop := collapse l = acc ++ colGo (!acc.isEmpty) (pvAt l k) (l.drop k) ∧ acc.length ≤ k ∧ (acc ≠ [] → pvAt l k = true → acc.length + 1 ≤ k)
theorem ColRel.start (l : List UInt8) : ColRel l [] 0 := ⟨by simp [collapse, pvAt], by simp, fun h => absurd rfl h⟩
theorem ColRel.one {l acc : List UInt8} {k : Nat} (h : ColRel l acc k) (hk : k < l.length) (hs : sp l[k] = false) (hn : (!acc.isEmpty && pvAt l k) = false) : ColRel l (acc ++ [l[k]]) (k + 1) := by
  obtain ⟨h1, h2, h3⟩ := h
  refine ⟨?_, by simp; omega, fun _ hp => ?_⟩
  · rw [h1, drop_at l k hk, colGo, if_neg (by simp [hs]), if_neg (by simp [hn]), pvAt_succ, getD_at l k hk, hs]
    cases acc <;> simp
  · rw [pvAt_succ, getD_at l k hk, hs] at hp; cases hp
theorem ColRel.done {l acc : List UInt8} {k : Nat} (h : ColRel l acc k) (hk : l.length ≤ k) : acc = collapse l := by
  rw [h.1, List.drop_eq_nil_of_le hk, colGo, List.append_nil]
end Go.Proofs.YtoehcholbcchcaaDoor
end
