/- Packed from the texts . -/
import Derived.Test.YtggfblodjanfkaaDoorVkE
import Derived.Test.YtggfblodjanfkaaDoorVkF
import Derived.Test.YtggfblodjanfkaaDoorVkH
import Derived.Shelf.Unicode.DecodeSlow
import Derived.WalkMore
