/- Packed from the texts WrV. -/
import Derived.Test.YtppmoeidgefkpaaGreatDoorWkE
import Derived.Test.YtppmoeidgefkpaaGreatDoorWkF
import Derived.Test.YtppmoeidgefkpaaGreatDoorWkR
import Derived.Test.YtppmoeidgefkpaaGreatDoorWkU
namespace Go.Proofs.YtppmoeidgefkpaaGreatDoor
section
open Go.RowKit
theorem doc_size (n : NodeD) : (oB (docP n)).size ≤ 6 * n.mass + 40 := by
 have h := form_len n
 rw [oBz]
 unfold docP
 rw [List.length_append, List.length_append]
 have h2 : headP.length = 39 := rfl
 have h3 : ([10] : List UInt8).length = 1 := rfl
 omega
end
end Go.Proofs.YtppmoeidgefkpaaGreatDoor
