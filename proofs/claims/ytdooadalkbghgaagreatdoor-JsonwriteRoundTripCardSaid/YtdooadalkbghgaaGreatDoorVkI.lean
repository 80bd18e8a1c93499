/- Packed from the texts . -/
import Derived.Test.YtdooadalkbghgaaGreatDoorVkA
import Derived.Below
