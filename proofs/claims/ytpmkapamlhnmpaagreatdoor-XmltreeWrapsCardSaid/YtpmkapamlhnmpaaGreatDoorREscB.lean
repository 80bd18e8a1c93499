/- Packed from the texts . -/
import Derived.Test.YtpmkapamlhnmpaaGreatDoorREscA
import Derived.Lib.AppendStr
