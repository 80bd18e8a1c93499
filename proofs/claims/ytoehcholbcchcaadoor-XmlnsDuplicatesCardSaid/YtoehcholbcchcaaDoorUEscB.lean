/- Packed from the texts . -/
import Derived.Test.YtoehcholbcchcaaDoorUEscA
import Derived.Lib.AppendStr
