/- Packed from the texts . -/
import Derived.Test.YtggfblodjanfkaaGreatDoorVkE
import Derived.Test.YtggfblodjanfkaaGreatDoorVkF
import Derived.Test.YtggfblodjanfkaaGreatDoorVkH
import Derived.Shelf.Unicode.DecodeSlow
import Derived.WalkMore
