/- Packed from the texts . -/
import Derived.Test.YtdooadalkbghgaaGreatDoorVJvE
import Derived.Test.YtdooadalkbghgaaGreatDoorVkM
import Derived.Test.YtdooadalkbghgaaGreatDoorVkN
