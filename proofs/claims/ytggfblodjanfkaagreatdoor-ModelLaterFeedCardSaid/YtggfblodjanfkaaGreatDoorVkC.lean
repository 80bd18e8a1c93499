/- Packed from the texts EscC. -/
import Derived.Test.YtggfblodjanfkaaGreatDoorVkA
import Derived.Test.YtggfblodjanfkaaGreatDoorChecked
import Derived.Lib.AppendStr
import Derived.WalkKit
import Derived.WalkSpells
section
namespace Go.Proofs.YtggfblodjanfkaaGreatDoor
open Go.RowKit
theorem estr_ext {a b : ByteArray} (h : a.data.toList = b.data.toList) : a = b := by
  cases a; cases b; simp at h; simp [h]
theorem eext (s : ByteArray) (f k : Nat) : s.extract f k = ofBytes ((s.data.toList.drop f).take (k - f)) := by
  apply estr_ext
  rw [ofBytes_list]
  simp only [ByteArray.data_extract, Array.toList_extract, List.extract_eq_take_drop]
def eb (r : Int) : List UInt8 := (encZ r).map fun n => UInt8.ofNat n.toNat
end Go.Proofs.YtggfblodjanfkaaGreatDoor
end
