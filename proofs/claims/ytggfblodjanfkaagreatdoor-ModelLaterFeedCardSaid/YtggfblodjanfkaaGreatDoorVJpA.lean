/- Packed from the texts JpA. -/
import Derived.Test.YtggfblodjanfkaaGreatDoorVkG
import Derived.Test.YtggfblodjanfkaaGreatDoorVkK
import Derived.WalkLawsBesides
import Derived.BigQuiet
import Derived.BigGuard
import Derived.Deep.RegionWith
import Derived.Deep.RegionHeld3
import Derived.WalkKit
import Derived.WalkSmall
section
namespace Go.Proofs.YtggfblodjanfkaaGreatDoor
open Go.RowKit
theorem Pj.drewN {X : Nat → Prop} {a w : World} (h : Pj X a w) (n : Nat) : Pj X a (w.drewN n) := h.more ⟨rfl, rfl, rfl, Nat.le_refl _, fun _ _ => rfl⟩
end Go.Proofs.YtggfblodjanfkaaGreatDoor
end
