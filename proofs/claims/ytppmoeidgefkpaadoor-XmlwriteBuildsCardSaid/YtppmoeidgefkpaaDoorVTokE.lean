/- Packed from the texts TokE. -/
import Derived.Test.YtppmoeidgefkpaaDoorVEscC
import Derived.Test.YtppmoeidgefkpaaDoorVRow
import Derived.Test.YtppmoeidgefkpaaDoorVTokA
import Derived.Lib.ConvBytes
import Derived.Laws.IdiomStrings
import Derived.Deep.QuietTactic
import Derived.BigQuiet
import Derived.WalkSmall
import Derived.Laws.StructEq
section
namespace Go.Proofs.YtppmoeidgefkpaaDoor
open Go.RowKit
theorem cell_set_same {w : World} {p : Addr} (v : Value) (h : (w.cell? p).isSome = true) : (w.setCell p v).cell? p = some v := by
  obtain ⟨u, hu⟩ := Option.isSome_iff_exists.mp h
  exact World.cell?_setCell_same w p v hu
structure AttrD where
  sp : ByteArray
  nm : ByteArray
  va : ByteArray
  at' : Int
deriving DecidableEq
def AttrsAt (w : World) (p : Option Addr) (l : List AttrD) : Prop := ∀ i (h : i < l.length), ∃ a, p = some a ∧
  w.cell? (a.add (i * 4)) = some (.string l[i].sp) ∧ w.cell? ((a.add (i * 4)).add 1) = some (.string l[i].nm) ∧ w.cell? ((a.add (i * 4)).add 2) = some (.string l[i].va) ∧ w.cell? ((a.add (i * 4)).add 3) = some (.int .i64 l[i].at')
def AttrD.val (x : AttrD) : Value := .agg #[.string x.sp, .string x.nm, .string x.va, .int .i64 x.at']
end Go.Proofs.YtppmoeidgefkpaaDoor
end
