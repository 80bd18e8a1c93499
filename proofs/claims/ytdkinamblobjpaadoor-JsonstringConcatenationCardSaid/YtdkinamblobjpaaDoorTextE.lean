/- Collapse of package text and of its reference: both return the collapsed string, as one plain function on lists of bytes. -/
import Derived.Test.YtdkinamblobjpaaDoorTextA
import Derived.Test.YtdkinamblobjpaaDoorKit
import Derived.Deep.RegionWith
namespace Go.Proofs.YtdkinamblobjpaaDoor
open Go.RowKit

def sp (c : UInt8) : Bool := isSpaceB (c.toNat : Int)
/-- Collapse from a place on: whether something has been written, and whether the byte before was white space. -/
def colGo : Bool → Bool → List UInt8 → List UInt8
  | _, _, [] => []
  | st, pv, c :: r => if sp c then colGo st true r else if st && pv then 32 :: c :: colGo true false r else c :: colGo true false r
def collapse (l : List UInt8) : List UInt8 := colGo false false l
/-- Whether the byte before place k is white space. -/
def pvAt (l : List UInt8) (k : Nat) : Bool := match k with | 0 => false | j + 1 => sp (l.getD j 0)
theorem pvAt_succ (l : List UInt8) (j : Nat) : pvAt l (j + 1) = sp (l.getD j 0) := rfl
theorem drop_at (l : List UInt8) (k : Nat) (h : k < l.length) : l.drop k = l[k] :: l.drop (k + 1) := List.drop_eq_getElem_cons h
theorem getD_at (l : List UInt8) (k : Nat) (h : k < l.length) : l.getD k 0 = l[k] := by simp [List.getD, h]

/-- What the loop of Collapse holds at the head of round k: acc has been written. -/
def ColRel (l acc : List UInt8) (k : Nat) : Prop := collapse l = acc ++ colGo (!acc.isEmpty) (pvAt l k) (l.drop k) ∧ acc.length ≤ k ∧ (acc ≠ [] → pvAt l k = true → acc.length + 1 ≤ k)
theorem ColRel.start (l : List UInt8) : ColRel l [] 0 := ⟨by simp [collapse, pvAt], by simp, fun h => absurd rfl h⟩
theorem ColRel.space {l acc : List UInt8} {k : Nat} (h : ColRel l acc k) (hk : k < l.length) (hs : sp l[k] = true) : ColRel l acc (k + 1) := by
  obtain ⟨h1, h2, h3⟩ := h
  refine ⟨?_, by omega, fun _ _ => by omega⟩
  rw [h1, drop_at l k hk, colGo, if_pos hs, pvAt_succ, getD_at l k hk, hs]
theorem ColRel.one {l acc : List UInt8} {k : Nat} (h : ColRel l acc k) (hk : k < l.length) (hs : sp l[k] = false) (hn : (!acc.isEmpty && pvAt l k) = false) : ColRel l (acc ++ [l[k]]) (k + 1) := by
  obtain ⟨h1, h2, h3⟩ := h
  refine ⟨?_, by simp; omega, fun _ hp => ?_⟩
  · rw [h1, drop_at l k hk, colGo, if_neg (by simp [hs]), if_neg (by simp [hn]), pvAt_succ, getD_at l k hk, hs]
    cases acc <;> simp
  · rw [pvAt_succ, getD_at l k hk, hs] at hp; cases hp
theorem ColRel.two {l acc : List UInt8} {k : Nat} (h : ColRel l acc k) (hk : k < l.length) (hs : sp l[k] = false) (hn : (!acc.isEmpty && pvAt l k) = true) : ColRel l (acc ++ [32] ++ [l[k]]) (k + 1) := by
  obtain ⟨h1, h2, h3⟩ := h
  rw [Bool.and_eq_true] at hn
  have h4 := h3 (by intro e; rw [e] at hn; simp at hn) hn.2
  refine ⟨?_, by simp; omega, fun _ hp => ?_⟩
  · rw [h1, drop_at l k hk, colGo, if_neg (by simp [hs]), if_pos (by simp [hn]), pvAt_succ, getD_at l k hk, hs]
    cases acc <;> simp
  · rw [pvAt_succ, getD_at l k hk, hs] at hp; cases hp
theorem ColRel.done {l acc : List UInt8} {k : Nat} (h : ColRel l acc k) (hk : l.length ≤ k) : acc = collapse l := by
  rw [h.1, List.drop_eq_nil_of_le hk, colGo, List.append_nil]

theorem info_u8 : (Tryd.prog.info? 5).map (fun i => (i.zero, i.size, i.bytes)) = some (some (.int .u8 0), 1, 1) := by kernel_rfl

end Go.Proofs.YtdkinamblobjpaaDoor
