/- Packed from the texts . -/
import Derived.Test.YtggfblodjanfkaaDoorVkL
import Derived.Test.YtggfblodjanfkaaDoorVkN
