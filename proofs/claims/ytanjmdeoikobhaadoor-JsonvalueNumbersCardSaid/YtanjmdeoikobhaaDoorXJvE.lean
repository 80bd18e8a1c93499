/- Packed from the texts JvE. -/
import Derived.Test.YtanjmdeoikobhaaDoorXkM
import Derived.BigGuard
import Derived.Deep.RegionHeld3
section
namespace Go.Proofs.YtanjmdeoikobhaaDoor
open Go.RowKit
theorem vsEq_drop (off : Bool) (l m : List ValD) (i : Nat) (h : i < l.length) (h' : i < m.length) : vsEq off (l.drop i) (m.drop i) = (l[i].eqB off m[i] && vsEq off (l.drop (i + 1)) (m.drop (i + 1))) := by
  rw [List.drop_eq_getElem_cons h, List.drop_eq_getElem_cons h', vsEq]
theorem msEq_drop (off : Bool) (l m : List MemD) (i : Nat) (h : i < l.length) (h' : i < m.length) : msEq off (l.drop i) (m.drop i) = (l[i].eqB off m[i] && msEq off (l.drop (i + 1)) (m.drop (i + 1))) := by
  rw [List.drop_eq_getElem_cons h, List.drop_eq_getElem_cons h', msEq]
theorem jtrB {a b : Bool} (h : a = b) : Ending.returned (.bool a) = .returned (.bool b) := by rw [h]
end Go.Proofs.YtanjmdeoikobhaaDoor
end
