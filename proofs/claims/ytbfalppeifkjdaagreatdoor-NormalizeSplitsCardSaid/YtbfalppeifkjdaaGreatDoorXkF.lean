/- Packed from the texts Row Bldr. -/
import Derived.Test.YtbfalppeifkjdaaGreatDoorXShelf
import Derived.Test.YtbfalppeifkjdaaGreatDoorXkA
import Derived.Lib.ConvBytes
import Derived.Laws.IdiomStrings
import Derived.Shelf.Strings.BuilderK
import Derived.Shelf.Strings.BuilderRune
import Derived.Test.YtbfalppeifkjdaaGreatDoorChecked
import Derived.KernelRfl
section
namespace Go.Proofs.YtbfalppeifkjdaaGreatDoor
open Go.RowKit
def RowAt (w : World) (b : Nat) (ys : List UInt8) : Prop := ∀ j, j < ys.length → w.cell? ⟨b, j, none⟩ = some (.int .u8 ((ys.getD j 0).toNat : Int)) ∧ w.frozen? ⟨b, j, none⟩ = false
theorem RowAt.below {B : Nat} {w w' : World} {b : Nat} {ys : List UInt8} (h : RowAt w b ys) (hb : Below B w w') (hlt : b < B) : RowAt w' b ys := fun j hj => ⟨(hb.cell (p := ⟨b, j, none⟩) hlt).trans (h j hj).1, (hb.frozen (p := ⟨b, j, none⟩) hlt).trans (h j hj).2⟩
theorem RowAt.set {w : World} {b k : Nat} {ys : List UInt8} (h : RowAt w b ys) (hk : k < ys.length) (c : UInt8) : RowAt (w.setCell ⟨b, k, none⟩ (.int .u8 (c.toNat : Int))) b (ys.set k c) := by
  intro j hj
  rw [List.length_set] at hj
  rw [World.frozen?_setCell]
  refine ⟨?_, (h j hj).2⟩
  by_cases hjk : k = j
  · subst hjk
    rw [World.cell?_setCell_same _ _ _ (h k hk).1, List.getD_eq_getElem?_getD, List.getElem?_set_self hk]; rfl
  · rw [World.cell?_setCell_other _ _ _ _ (by simp), (h j hj).1, List.getD_eq_getElem?_getD, List.getD_eq_getElem?_getD, List.getElem?_set_ne hjk]
end Go.Proofs.YtbfalppeifkjdaaGreatDoor
end
section
namespace Go.Proofs.YtbfalppeifkjdaaGreatDoor
open Go.RowKit
def Bld (B b : Nat) (l : List UInt8) (w : World) : Prop := Lib.IsBuilderF 159 5 B b (Lib.byteCells l) w
theorem bld_at_below {T e : TypeId} {B b : Nat} {p : Value} {bs : List Value} {w w' : World} (h : Lib.BuilderAtF T e B b p bs w) (hb : Below w.heap.size w w') : Lib.BuilderAtF T e B b p bs w' := by
  obtain ⟨hB, v, hh, hown, hne⟩ := h
  refine ⟨hB, v, (hb.block b (Array.getElem?_eq_some_iff.1 hh).1).trans hh, ⟨hown.1, ?_⟩, hne⟩
  rcases hown.2 with hn | ⟨g, cap, cur, fz, hv, hbg, hg, rest⟩
  · exact .inl hn
  · exact .inr ⟨g, cap, cur, fz, hv, hbg, (hb.block g (Array.getElem?_eq_some_iff.1 hg).1).trans hg, rest⟩
theorem Bld.below {B b : Nat} {l : List UInt8} {w w' : World} (h : Bld B b l w) (hb : Below w.heap.size w w') : Bld B b l w' := h.elim (fun x => .inl (bld_at_below x hb)) (fun x => .inr (bld_at_below x hb))
end Go.Proofs.YtbfalppeifkjdaaGreatDoor
end
