/- Packed from the texts . -/
import Derived.Test.YtdooadalkbghgaaDoorVJpA
import Derived.Test.YtdooadalkbghgaaDoorVJsK
