/- Packed from the texts . -/
import Derived.Test.YtkkiklaoljdhhaaGreatDoorYkA
import Derived.Below
