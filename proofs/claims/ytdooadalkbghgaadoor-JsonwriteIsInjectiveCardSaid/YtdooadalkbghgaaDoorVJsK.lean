/- Packed from the texts . -/
import Derived.Test.YtdooadalkbghgaaDoorVkE
import Derived.Test.YtdooadalkbghgaaDoorVkF
import Derived.Test.YtdooadalkbghgaaDoorVkH
import Derived.Shelf.Unicode.DecodeSlow
import Derived.WalkMore
