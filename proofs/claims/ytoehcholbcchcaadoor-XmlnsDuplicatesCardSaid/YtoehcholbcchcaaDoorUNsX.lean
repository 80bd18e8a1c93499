/- Packed from the texts NsX. -/
import Derived.Test.YtoehcholbcchcaaDoorUNsB
import Derived.Test.YtoehcholbcchcaaDoorUTextX
import Derived.Shelf.Vars
section
namespace Go.Proofs.YtoehcholbcchcaaDoor
open Go.RowKit Go.Lib
theorem nsT_of_laid {W : World} (h : laidMetH Tryd.prog laid1 W) (hsh : W.ShapedOpen Tryd.prog) : NsT W :=
  ⟨tabs_of_laid h, Go.Proofs.cell_of_shapedOpen_int (zero := #[.int .i64 0]) (t := 3) hsh (of_decide_eq_true (by kernel_rfl)) (by kernel_rfl) rfl (by kernel_rfl) (by kernel_rfl) Tryd.underlying3⟩
end Go.Proofs.YtoehcholbcchcaaDoor
end
