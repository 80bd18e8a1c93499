/- A row of bytes that the call itself has made out of a string: its cells; stores; the string made of it again. -/
import Derived.Test.YtdkinamblobjpaaDoorKit
import Derived.Lib.ConvBytes
import Derived.Laws.IdiomStrings
namespace Go.Proofs.YtdkinamblobjpaaDoor
open Go.RowKit

/-- A row of bytes of the call's own: its cells, and that they may be stored into. -/
def RowAt (w : World) (b : Nat) (ys : List UInt8) : Prop := ∀ j, j < ys.length → w.cell? ⟨b, j, none⟩ = some (.int .u8 ((ys.getD j 0).toNat : Int)) ∧ w.frozen? ⟨b, j, none⟩ = false
theorem RowAt.conv (w : World) (e : TypeId) (s : ByteArray) : RowAt (Lib.bytesWorld w e s) w.heap.size s.data.toList := by
  intro j hj
  have hj' : j < s.size := by simpa using hj
  refine ⟨Lib.bytesWorld_cell w e s j hj', ?_⟩
  have hb : j < (Lib.bytesCells w e s).size := by
    unfold Lib.bytesCells
    rw [Array.size_append, Array.size_map]
    have : s.data.size = s.size := rfl
    omega
  simp [World.frozen?, Lib.bytesWorld_at_new]
  omega
theorem RowAt.below {B : Nat} {w w' : World} {b : Nat} {ys : List UInt8} (h : RowAt w b ys) (hb : Below B w w') (hlt : b < B) : RowAt w' b ys := fun j hj => ⟨(hb.cell (p := ⟨b, j, none⟩) hlt).trans (h j hj).1, (hb.frozen (p := ⟨b, j, none⟩) hlt).trans (h j hj).2⟩
theorem RowAt.set {w : World} {b k : Nat} {ys : List UInt8} (h : RowAt w b ys) (hk : k < ys.length) (c : UInt8) : RowAt (w.setCell ⟨b, k, none⟩ (.int .u8 (c.toNat : Int))) b (ys.set k c) := by
  intro j hj
  rw [List.length_set] at hj
  rw [World.frozen?_setCell]
  refine ⟨?_, (h j hj).2⟩
  by_cases hjk : k = j
  · subst hjk
    rw [World.cell?_setCell_same _ _ _ (h k hk).1, List.getD_eq_getElem?_getD, List.getElem?_set_self hk]; rfl
  · rw [World.cell?_setCell_other _ _ _ _ (by simp), (h j hj).1, List.getD_eq_getElem?_getD, List.getD_eq_getElem?_getD, List.getElem?_set_ne hjk]
theorem conv_below (w : World) (e : TypeId) (s : ByteArray) : Below w.heap.size w (Lib.bytesWorld w e s) :=
  ⟨rfl, rfl, rfl, by rw [Lib.bytesWorld_size]; omega, fun k hk => Lib.bytesWorld_at_old w e s k hk⟩
theorem RowAt.back {P : Program} {w : World} {b cap : Nat} {ys : List UInt8} {src dst e : TypeId} (h : RowAt w b ys) (hs : P.underlying src = some (.slice e)) (he : P.underlying e = some (.int .u8)) (hd : P.underlying dst = some .string) :
    (convert src dst (.slice (some ⟨b, 0, none⟩) ys.length cap)).run P w = .ok (.string (ofBytes ys)) w :=
  run_convert_bytes_back w src dst e ⟨b, 0, none⟩ cap ys hs he hd fun j hj => by
    rw [addr_add, (h j hj).1, List.getD_eq_getElem?_getD, List.getElem?_eq_getElem hj]; rfl
/-- The row when the first k bytes have been turned by a function. -/
def rowF (f : UInt8 → UInt8) (ys : List UInt8) (k : Nat) : List UInt8 := (ys.take k).map f ++ ys.drop k
theorem rowF_len (f : UInt8 → UInt8) (ys : List UInt8) (k : Nat) : (rowF f ys k).length = ys.length := by unfold rowF; rw [List.length_append, List.length_map, List.length_take, List.length_drop]; omega
theorem rowF_zero (f : UInt8 → UInt8) (ys : List UInt8) : rowF f ys 0 = ys := rfl
theorem rowF_end (f : UInt8 → UInt8) (ys : List UInt8) : rowF f ys ys.length = ys.map f := by unfold rowF; simp
theorem rowF_at (f : UInt8 → UInt8) (ys : List UInt8) (k : Nat) (h : k < ys.length) : (rowF f ys k).getD k 0 = ys[k] := by
  unfold rowF
  rw [List.getD_eq_getElem?_getD, List.getElem?_append_right (by simp; omega)]
  simp [Nat.min_eq_left (Nat.le_of_lt h), h]
theorem rowF_set (f : UInt8 → UInt8) (ys : List UInt8) (k : Nat) (h : k < ys.length) : (rowF f ys k).set k (f ys[k]) = rowF f ys (k + 1) := by
  unfold rowF
  rw [List.set_append_right _ _ (by simp; omega), List.drop_eq_getElem_cons h]
  have e0 : k - ((ys.take k).map f).length = 0 := by simp; omega
  rw [e0, List.set_cons_zero, List.take_add_one, List.getElem?_eq_getElem h, show (some ys[k]).toList = [ys[k]] from rfl, List.map_append, List.map_cons, List.map_nil, List.append_assoc]
  rfl
theorem rowF_same (f : UInt8 → UInt8) (ys : List UInt8) (k : Nat) (h : k < ys.length) (hs : f ys[k] = ys[k]) : rowF f ys k = rowF f ys (k + 1) := by
  unfold rowF
  rw [List.drop_eq_getElem_cons h, List.take_add_one, List.getElem?_eq_getElem h, show (some ys[k]).toList = [ys[k]] from rfl, List.map_append, List.map_cons, List.map_nil, hs, List.append_assoc]
  rfl
end Go.Proofs.YtdkinamblobjpaaDoor
