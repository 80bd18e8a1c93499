/- Packed from the texts . -/
import Derived.Test.YtdooadalkbghgaaDoorVJpB
import Derived.Test.YtdooadalkbghgaaDoorVShelf
import Derived.Test.YtdooadalkbghgaaDoorVkC
import Derived.Test.YtdooadalkbghgaaDoorVkK
import Derived.Lib.ParseIntBTie
import Derived.Lib.SlTrimSet
import Derived.Shelf.Strings.SlTrimAscii
