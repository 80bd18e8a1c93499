/- Packed from the texts . -/
import Derived.Test.YtdooadalkbghgaaDoorVkL
import Derived.Test.YtdooadalkbghgaaDoorVkN
