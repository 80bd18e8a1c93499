/- Packed from the texts JwD. -/
import Derived.Test.YtggfblodjanfkaaGreatDoorVkE
import Derived.Test.YtggfblodjanfkaaGreatDoorVkM
import Derived.Test.YtggfblodjanfkaaGreatDoorVkU
import Derived.Deep.Cut
import Derived.Deep.QuietTactic
import Derived.BigQuiet
section
namespace Go.Proofs.YtggfblodjanfkaaGreatDoor
open Go.RowKit
def jvalB (n : ValD) : Bool := n.okB && decide (n.depth ≤ 100)
def chkZ (n : ValD) : Int := if jvalB n = true then 0 else 22
theorem jvalB_vd (n : ValD) : n.vdB 1 = jvalB n := by
  rw [vvd_split]
  unfold jvalB
  congr 1
  rw [decide_eq_decide]
  omega
end Go.Proofs.YtggfblodjanfkaaGreatDoor
end
