/- The reference of layer 3: is. -/
import Derived.Test.YtdbpkggjnmapiaaDoorDatP
namespace Go.Proofs.YtdbpkggjnmapiaaDoor
open Go.RowKit

theorem retB2 {a b : Bool} (h : a = b) : Ending.returned (.bool a) = .returned (.bool b) := by rw [h]
end Go.Proofs.YtdbpkggjnmapiaaDoor
