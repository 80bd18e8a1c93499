/- Packed from the texts NmF. -/
import Derived.Test.YtbfalppeifkjdaaGreatDoorXLate
import Derived.Test.YtbfalppeifkjdaaGreatDoorXl1
import Derived.Test.YtbfalppeifkjdaaGreatDoorXm2
section
namespace Go.Proofs.YtbfalppeifkjdaaGreatDoor
open Go.RowKit
theorem nm_set5 {w : World} {b : Nat} {T : TypeId} {u0 u1 u2 u3 u4 : Value} (h : MBlk w b #[u0, u1, u2, u3, u4] T) (v0 v1 v2 v3 v4 : Value) : MBlk (((((w.setCell ⟨b, 0, none⟩ v0).setCell ⟨b, 1, none⟩ v1).setCell ⟨b, 2, none⟩ v2).setCell ⟨b, 3, none⟩ v3).setCell ⟨b, 4, none⟩ v4) b #[v0, v1, v2, v3, v4] T := by
  have h1 : MBlk (w.setCell ⟨b, 0, none⟩ v0) b #[v0, u1, u2, u3, u4] T := by
    have := heap_setCell_same _ b 0 _ _ v0 h
    rwa [show (#[u0, u1, u2, u3, u4] : Array Value).setIfInBounds 0 v0 = #[v0, u1, u2, u3, u4] from rfl] at this
  have h2 : MBlk ((w.setCell ⟨b, 0, none⟩ v0).setCell ⟨b, 1, none⟩ v1) b #[v0, v1, u2, u3, u4] T := by
    have := heap_setCell_same _ b 1 _ _ v1 h1
    rwa [show (#[v0, u1, u2, u3, u4] : Array Value).setIfInBounds 1 v1 = #[v0, v1, u2, u3, u4] from rfl] at this
  have h3 : MBlk (((w.setCell ⟨b, 0, none⟩ v0).setCell ⟨b, 1, none⟩ v1).setCell ⟨b, 2, none⟩ v2) b #[v0, v1, v2, u3, u4] T := by
    have := heap_setCell_same _ b 2 _ _ v2 h2
    rwa [show (#[v0, v1, u2, u3, u4] : Array Value).setIfInBounds 2 v2 = #[v0, v1, v2, u3, u4] from rfl] at this
  have h4 : MBlk ((((w.setCell ⟨b, 0, none⟩ v0).setCell ⟨b, 1, none⟩ v1).setCell ⟨b, 2, none⟩ v2).setCell ⟨b, 3, none⟩ v3) b #[v0, v1, v2, v3, u4] T := by
    have := heap_setCell_same _ b 3 _ _ v3 h3
    rwa [show (#[v0, v1, v2, u3, u4] : Array Value).setIfInBounds 3 v3 = #[v0, v1, v2, v3, u4] from rfl] at this
  have h5 : MBlk (((((w.setCell ⟨b, 0, none⟩ v0).setCell ⟨b, 1, none⟩ v1).setCell ⟨b, 2, none⟩ v2).setCell ⟨b, 3, none⟩ v3).setCell ⟨b, 4, none⟩ v4) b #[v0, v1, v2, v3, v4] T := by
    have := heap_setCell_same _ b 4 _ _ v4 h4
    rwa [show (#[v0, v1, v2, v3, u4] : Array Value).setIfInBounds 4 v4 = #[v0, v1, v2, v3, v4] from rfl] at this
  exact h5
theorem nm_below5 {B : Nat} {v x : World} {s : Nat} (h : Below B v x) (h2 : B ≤ s) (v0 v1 v2 v3 v4 : Value) : Below B v (((((x.setCell ⟨s, 0, none⟩ v0).setCell ⟨s, 1, none⟩ v1).setCell ⟨s, 2, none⟩ v2).setCell ⟨s, 3, none⟩ v3).setCell ⟨s, 4, none⟩ v4) :=
  (((((h.setCell (p := ⟨s, 0, none⟩) h2 v0).setCell (p := ⟨s, 1, none⟩) h2 v1).setCell (p := ⟨s, 2, none⟩) h2 v2).setCell (p := ⟨s, 3, none⟩) h2 v3).setCell (p := ⟨s, 4, none⟩) h2 v4)
theorem nam_new4 (w : World) (a b c d : ByteArray) : NamAt (w.alloc (.cells #[.string a, .string b, .string c, .string d] 9)) (some ⟨w.heap.size, 0, none⟩) [a, b, c, d] := fun i hi => by
  have h := heap_alloc_new w (.cells #[.string a, .string b, .string c, .string d] 9)
  refine ⟨_, rfl, ?_⟩
  match i, hi with
  | 0, _ => exact cell_of_row _ _ 0 _ _ _ h
  | 1, _ => exact cell_of_row _ _ 1 _ _ _ h
  | 2, _ => exact cell_of_row _ _ 2 _ _ _ h
  | 3, _ => exact cell_of_row _ _ 3 _ _ _ h
def NfQ (s1 s2 s3 s4 : ByteArray) (u : Int) (R : Nat) (E : EntD) : Prop := (s1.size = 0 → R = 19 ∧ E = entZ) ∧ (s1.size ≠ 0 → inTB u = true → R = 0 ∧ E = ⟨s1, s2, s3, s4, u⟩) ∧ (s1.size ≠ 0 → ¬ inTB u = true → R = 3 ∧ E = entZ)
end Go.Proofs.YtbfalppeifkjdaaGreatDoor
end
