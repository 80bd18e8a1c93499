/- Packed from the texts . -/
import Derived.Test.YtppmoeidgefkpaaDoorVTextE
import Derived.Test.YtppmoeidgefkpaaDoorVTextT
