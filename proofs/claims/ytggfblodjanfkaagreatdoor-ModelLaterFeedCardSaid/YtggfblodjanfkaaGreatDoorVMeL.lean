/- Packed from the texts MeL. -/
import Derived.Test.YtggfblodjanfkaaGreatDoorVMeK
import Derived.Test.YtggfblodjanfkaaGreatDoorVk9
import Derived.Test.YtggfblodjanfkaaGreatDoorVl1
section
namespace Go.Proofs.YtggfblodjanfkaaGreatDoor
open Go.RowKit
structure EWf (e : EntD) : Prop where
  id : e.id.size ≤ 140737488351232
  title : e.title.size ≤ 140737488351232
  link : e.link.size ≤ 140737488351232
  content : e.content.size ≤ 140737488351232
  u0 : -9223372036854775808 ≤ e.upd
  u1 : e.upd ≤ 9223372036854775807
end Go.Proofs.YtggfblodjanfkaaGreatDoor
end
