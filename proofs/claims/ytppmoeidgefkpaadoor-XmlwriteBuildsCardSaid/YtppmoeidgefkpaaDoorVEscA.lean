/- Packed from the texts . -/
import Derived.Test.YtppmoeidgefkpaaDoorVKit
import Derived.Test.YtppmoeidgefkpaaDoorVTextA
import Derived.Test.YtppmoeidgefkpaaDoorChecked
