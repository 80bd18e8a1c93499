/- Packed from the texts . -/
import Derived.Test.YtoehcholbcchcaaDoorSEscA
import Derived.Lib.AppendStr
