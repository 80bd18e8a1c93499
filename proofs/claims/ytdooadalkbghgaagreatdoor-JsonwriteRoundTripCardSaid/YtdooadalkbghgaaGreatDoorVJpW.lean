/- Packed from the texts . -/
import Derived.Test.YtdooadalkbghgaaGreatDoorVJpT
import Derived.Test.YtdooadalkbghgaaGreatDoorVkP
import Derived.Test.YtdooadalkbghgaaGreatDoorVkQ
import Derived.KernelRfl
