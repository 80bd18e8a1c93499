/- Packed from the texts . -/
import Derived.Test.YtppmoeidgefkpaaDoorVTextE
import Derived.Test.YtppmoeidgefkpaaDoorVkD
import Derived.BigRegion
import Derived.Deep.RegionWith
