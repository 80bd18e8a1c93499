/- Packed from the texts . -/
import Derived.Test.YtoehcholbcchcaaDoorUTextE
import Derived.Test.YtoehcholbcchcaaDoorUTextT
