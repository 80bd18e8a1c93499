/- Packed from the texts . -/
import Derived.Test.YtggfblodjanfkaaDoorVkA
import Derived.Below
