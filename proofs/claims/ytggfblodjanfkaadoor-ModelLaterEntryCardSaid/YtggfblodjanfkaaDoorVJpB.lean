/- Packed from the texts . -/
import Derived.Test.YtggfblodjanfkaaDoorVJpA
import Derived.Test.YtggfblodjanfkaaDoorVJsK
