/- Packed from the texts . -/
import Derived.Test.YtdooadalkbghgaaDoorVJvE
import Derived.Test.YtdooadalkbghgaaDoorVkM
import Derived.Test.YtdooadalkbghgaaDoorVkN
