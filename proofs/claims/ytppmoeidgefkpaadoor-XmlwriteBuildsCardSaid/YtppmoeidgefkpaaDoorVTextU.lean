/- Packed from the texts TextU. -/
import Derived.Test.YtppmoeidgefkpaaDoorVTextT
import Derived.Deep.RegionWith
import Derived.Deep.LoopGhost
import Derived.IntWalk
section
namespace Go.Proofs.YtppmoeidgefkpaaDoor
open Go.RowKit Go.Lib
def Missed (s : ByteArray) (n k : Nat) : Prop := ∀ j, 1 ≤ j → j < k → n + j ≤ s.size → hitB s n j = false
theorem Missed.next {s : ByteArray} {n k : Nat} (h : Missed s n k) (hb : hitB s n k = false) : Missed s n (k + 1) := fun j h1 h2 h3 => by
  rcases Nat.lt_or_eq_of_le (Nat.le_of_lt_succ h2) with h4 | rfl
  · exact h j h1 h4 h3
  · exact hb
theorem Missed.all {s : ByteArray} {n k : Nat} (h : Missed s n k) (hn : n < s.size) (hk : 5 ≤ k ∨ s.size < n + k) : decP s n = (0, 0) :=
  dec_miss s n hn fun j h1 h2 h3 => h j h1 (by omega) h3
end Go.Proofs.YtppmoeidgefkpaaDoor
end
