/- Packed from the texts StrK. -/
import Derived.Test.YtppmoeidgefkpaaDoorChecked
import Derived.WalkKit
import Derived.WalkSpells
section
namespace Go.Proofs.YtppmoeidgefkpaaDoor
open Go.RowKit
theorem slice_from (f : ByteArray) (k : Int) (h0 : 0 ≤ k) (h1 : k ≤ (f.size : Int)) (w : World) : (Instr.slice 9 (.string f) (some (.int .i64 k)) none none).run Tryd.prog w = .ok (.string (f.extract k.toNat f.size)) w := by
  rw [run_slice_string_from_if (P := Tryd.prog) w 9 f .i64 k Tryd.underlying9, if_pos ⟨h0, h1⟩]
theorem slice_mid (f : ByteArray) (j k : Int) (h0 : 0 ≤ j) (h1 : j ≤ k) (h2 : k ≤ (f.size : Int)) (w : World) : (Instr.slice 9 (.string f) (some (.int .i64 j)) (some (.int .i64 k)) none).run Tryd.prog w = .ok (.string (f.extract j.toNat k.toNat)) w := by
  rw [run_slice_string (P := Tryd.prog) (w := w) 9 f .i64 .i64 j k Tryd.underlying9 h0 h1 h2]
end Go.Proofs.YtppmoeidgefkpaaDoor
end
