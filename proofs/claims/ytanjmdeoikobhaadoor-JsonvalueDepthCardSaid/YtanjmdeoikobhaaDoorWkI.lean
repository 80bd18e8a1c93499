/- Packed from the texts . -/
import Derived.Test.YtanjmdeoikobhaaDoorWkA
import Derived.Below
