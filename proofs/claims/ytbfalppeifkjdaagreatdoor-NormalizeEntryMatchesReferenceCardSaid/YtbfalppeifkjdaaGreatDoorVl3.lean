/- Packed from the texts . -/
import Derived.Test.YtbfalppeifkjdaaGreatDoorVLate
import Derived.Test.YtbfalppeifkjdaaGreatDoorVk3
import Derived.Test.YtbfalppeifkjdaaGreatDoorVk6
import Derived.Test.YtbfalppeifkjdaaGreatDoorVl2
