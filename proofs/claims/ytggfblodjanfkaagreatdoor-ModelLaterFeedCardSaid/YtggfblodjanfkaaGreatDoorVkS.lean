/- Packed from the texts . -/
import Derived.Test.YtggfblodjanfkaaGreatDoorVkM
