/- Packed from the texts . -/
import Derived.Test.YtggfblodjanfkaaGreatDoorVkL
import Derived.Test.YtggfblodjanfkaaGreatDoorVkN
