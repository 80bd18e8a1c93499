/- Packed from the texts . -/
import Derived.Test.YtpmkapamlhnmpaaGreatDoorQEscA
import Derived.Lib.AppendStr
