/- Packed from the texts . -/
import Derived.Test.YtppmoeidgefkpaaDoorVTextK
import Derived.Test.YtppmoeidgefkpaaDoorVTextU
