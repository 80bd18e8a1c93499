/- Packed from the texts . -/
import Derived.Test.YtdooadalkbghgaaDoorVJpT
import Derived.Test.YtdooadalkbghgaaDoorVkP
import Derived.Test.YtdooadalkbghgaaDoorVkQ
import Derived.KernelRfl
