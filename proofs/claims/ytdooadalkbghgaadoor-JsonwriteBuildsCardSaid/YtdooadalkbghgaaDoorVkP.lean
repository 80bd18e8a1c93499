/- Packed from the texts JpO. -/
import Derived.Test.YtdooadalkbghgaaDoorVJpM
import Derived.Defers
import Derived.Recover
import Derived.Laws.Pointers
import Derived.Tactics2
section
namespace Go.Proofs.YtdooadalkbghgaaDoor
open Go.RowKit
def tA (l : List UInt8) : Ares := match vA l (if [239, 187, 191].isPrefixOf l = true then 3 else 0) 1 with
  | .err a e => .err a e
  | .ok v j => if spP l j < l.length then .err (spP l j : Nat) 17 else .ok v l.length
end Go.Proofs.YtdooadalkbghgaaDoor
end
