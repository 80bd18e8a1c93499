/- The reference of layer 2: Weekday. -/
import Derived.Test.YtdbpkggjnmapiaaDoorCivQ
namespace Go.Proofs.YtdbpkggjnmapiaaDoor
open Go.RowKit

def inDays (n : Int) : Bool := decide (-719162 ≤ n ∧ n ≤ 2932896)
end Go.Proofs.YtdbpkggjnmapiaaDoor
