/- Packed from the texts . -/
import Derived.Test.YtanjmdeoikobhaaDoorXkA
import Derived.Below
