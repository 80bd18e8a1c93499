/- Packed from the texts . -/
import Derived.Test.YtggfblodjanfkaaGreatDoorVJpA
import Derived.Test.YtggfblodjanfkaaGreatDoorVJsK
