/- Packed from the texts . -/
import Derived.Test.YtoehcholbcchcaaDoorSTextE
import Derived.Test.YtoehcholbcchcaaDoorSTextT
