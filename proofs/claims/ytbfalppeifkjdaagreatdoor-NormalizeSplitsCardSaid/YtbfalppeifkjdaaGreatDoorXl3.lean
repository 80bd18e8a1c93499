/- Packed from the texts . -/
import Derived.Test.YtbfalppeifkjdaaGreatDoorXLate
import Derived.Test.YtbfalppeifkjdaaGreatDoorXk3
import Derived.Test.YtbfalppeifkjdaaGreatDoorXk6
import Derived.Test.YtbfalppeifkjdaaGreatDoorXl2
