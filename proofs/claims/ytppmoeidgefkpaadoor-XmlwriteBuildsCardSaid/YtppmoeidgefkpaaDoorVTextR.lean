/- Packed from the texts TextR. -/
import Derived.Test.YtppmoeidgefkpaaDoorVKit
import Derived.Test.YtppmoeidgefkpaaDoorChecked
section
namespace Go.Proofs.YtppmoeidgefkpaaDoor
open Go.RowKit
def encZ (r : Int) : List Int :=
  if r < 0 ∨ 1114111 < r ∨ (55296 ≤ r ∧ r ≤ 57343) then []
  else if r < 128 then [r]
  else if r < 2048 then [192 + r / 64, 128 + r % 64]
  else if r < 65536 then [224 + r / 4096, 128 + r / 64 % 64, 128 + r % 64]
  else [240 + r / 262144, 128 + r / 4096 % 64, 128 + r / 64 % 64, 128 + r % 64]
end Go.Proofs.YtppmoeidgefkpaaDoor
end
