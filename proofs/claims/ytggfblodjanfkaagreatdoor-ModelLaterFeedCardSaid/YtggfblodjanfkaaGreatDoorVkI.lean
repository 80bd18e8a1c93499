/- Packed from the texts . -/
import Derived.Test.YtggfblodjanfkaaGreatDoorVkA
import Derived.Below
