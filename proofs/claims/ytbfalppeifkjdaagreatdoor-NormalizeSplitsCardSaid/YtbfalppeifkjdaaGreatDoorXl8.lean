/- Packed from the texts . -/
import Derived.Test.YtbfalppeifkjdaaGreatDoorXLate
import Derived.Test.YtbfalppeifkjdaaGreatDoorXk6
