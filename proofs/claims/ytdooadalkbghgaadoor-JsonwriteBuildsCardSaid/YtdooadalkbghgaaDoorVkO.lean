/- Packed from the texts JpJ. -/
import Derived.Test.YtdooadalkbghgaaDoorVJpH
import Derived.Maps.Own
import Derived.Maps.Views
import Derived.OwnWalk
section
namespace Go.Proofs.YtdooadalkbghgaaDoor
open Go.RowKit Go.Maps
def jkD : List ByteArray → DataW Unit
  | [] => .map []
  | x :: r => (jkD r).put (.string x.data.toList) (.lit (.bool true))
def JkSet (w : World) (b : Nat) (l : List ByteArray) : Prop := w.ownsMap Tryd.prog 9 (plainElem Tryd.prog 4) b l.length (jkD l)
theorem JkSet.same {w w' : World} {b : Nat} {l : List ByteArray} (h : JkSet w b l) (hb : w'.heap[b]? = w.heap[b]?) : JkSet w' b l := by
  obtain ⟨es, clock, h1, h2⟩ := h
  exact ⟨es, clock, hb.trans h1, h2⟩
theorem JkSet.lt {w : World} {b : Nat} {l : List ByteArray} (h : JkSet w b l) : b < w.heap.size := by
  obtain ⟨es, clock, h1, _⟩ := h
  exact (Array.getElem?_eq_some_iff.1 h1).1
section
variable {w0 wS w w' w'' : World} {b d mb n : Nat} {v : Value} {xs : List Value} {cs : Array Value}
end
end Go.Proofs.YtdooadalkbghgaaDoor
end
