/- Packed from the texts TextE. -/
import Derived.Test.YtppmoeidgefkpaaDoorVKit
import Derived.Test.YtppmoeidgefkpaaDoorVTextA
import Derived.Deep.RegionWith
section
namespace Go.Proofs.YtppmoeidgefkpaaDoor
open Go.RowKit
def sp (c : UInt8) : Bool := isSpaceB (c.toNat : Int)
def colGo : Bool → Bool → List UInt8 → List UInt8
  | _, _, [] => []
  | st, pv, c :: r => if sp c then colGo st true r else if st && pv then 32 :: c :: colGo true false r else c :: colGo true false r
def collapse (l : List UInt8) : List UInt8 := colGo false false l
def pvAt (l : List UInt8) (k : Nat) : Bool := match k with | 0 => false | j + 1 => sp (l.getD j 0)
def ColRel (l acc : List UInt8) (k : Nat) : Prop := collapse l = acc ++ colGo (!acc.isEmpty) (pvAt l k) (l.drop k) ∧ acc.length ≤ k ∧ (acc ≠ [] → pvAt l k = true → acc.length + 1 ≤ k)
theorem ColRel.done {l acc : List UInt8} {k : Nat} (h : ColRel l acc k) (hk : l.length ≤ k) : acc = collapse l := by
  rw [h.1, List.drop_eq_nil_of_le hk, colGo, List.append_nil]
end Go.Proofs.YtppmoeidgefkpaaDoor
end
