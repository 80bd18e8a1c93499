/- Packed from the texts Row. -/
import Derived.Test.YtppmoeidgefkpaaDoorVKit
import Derived.Lib.ConvBytes
import Derived.Laws.IdiomStrings
section
namespace Go.Proofs.YtppmoeidgefkpaaDoor
open Go.RowKit
def RowAt (w : World) (b : Nat) (ys : List UInt8) : Prop := ∀ j, j < ys.length → w.cell? ⟨b, j, none⟩ = some (.int .u8 ((ys.getD j 0).toNat : Int)) ∧ w.frozen? ⟨b, j, none⟩ = false
theorem RowAt.below {B : Nat} {w w' : World} {b : Nat} {ys : List UInt8} (h : RowAt w b ys) (hb : Below B w w') (hlt : b < B) : RowAt w' b ys := fun j hj => ⟨(hb.cell (p := ⟨b, j, none⟩) hlt).trans (h j hj).1, (hb.frozen (p := ⟨b, j, none⟩) hlt).trans (h j hj).2⟩
theorem RowAt.set {w : World} {b k : Nat} {ys : List UInt8} (h : RowAt w b ys) (hk : k < ys.length) (c : UInt8) : RowAt (w.setCell ⟨b, k, none⟩ (.int .u8 (c.toNat : Int))) b (ys.set k c) := by
  intro j hj
  rw [List.length_set] at hj
  rw [World.frozen?_setCell]
  refine ⟨?_, (h j hj).2⟩
  by_cases hjk : k = j
  · subst hjk
    rw [World.cell?_setCell_same _ _ _ (h k hk).1, List.getD_eq_getElem?_getD, List.getElem?_set_self hk]; rfl
  · rw [World.cell?_setCell_other _ _ _ _ (by simp), (h j hj).1, List.getD_eq_getElem?_getD, List.getD_eq_getElem?_getD, List.getElem?_set_ne hjk]
end Go.Proofs.YtppmoeidgefkpaaDoor
end
