/- Packed from the texts . -/
import Derived.Test.YtdooadalkbghgaaDoorVkA
import Derived.Below
