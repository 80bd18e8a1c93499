/- Packed from the texts . -/
import Derived.Test.YtggfblodjanfkaaGreatDoorVJpB
import Derived.Test.YtggfblodjanfkaaGreatDoorVShelf
import Derived.Test.YtggfblodjanfkaaGreatDoorVkC
import Derived.Test.YtggfblodjanfkaaGreatDoorVkK
import Derived.Lib.ParseIntBTie
import Derived.Lib.SlTrimSet
import Derived.Shelf.Strings.SlTrimAscii
