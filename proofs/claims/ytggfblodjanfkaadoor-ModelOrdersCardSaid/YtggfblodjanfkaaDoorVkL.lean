/- Packed from the texts . -/
import Derived.Test.YtggfblodjanfkaaDoorVJpB
import Derived.Test.YtggfblodjanfkaaDoorVShelf
import Derived.Test.YtggfblodjanfkaaDoorVkC
import Derived.Test.YtggfblodjanfkaaDoorVkK
import Derived.Lib.ParseIntBTie
import Derived.Lib.SlTrimSet
import Derived.Shelf.Strings.SlTrimAscii
