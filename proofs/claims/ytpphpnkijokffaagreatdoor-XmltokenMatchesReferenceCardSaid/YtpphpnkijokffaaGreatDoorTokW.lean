/- The walk of the law of layer 6 on a document without markup and references. -/
import Derived.Test.YtpphpnkijokffaaGreatDoorTokV
import Derived.Test.YtpphpnkijokffaaGreatDoorTokS
import Derived.Test.YtpphpnkijokffaaGreatDoorShelf
import Derived.Lib.IndexLaws
import Derived.Deep.RegionHeld3
namespace Go.Proofs.YtpphpnkijokffaaGreatDoor
open Go.RowKit

theorem not_in {l : List UInt8} {c : UInt8} (h : Lib.indexByte l c = -1) : ∀ x ∈ l, x ≠ c := by
  intro x hx he
  obtain ⟨k, hk⟩ := List.mem_iff_getElem?.1 hx
  exact Lib.indexByte_none h k (by rw [hk, he])
theorem same_calls {P : Program} {f : FuncId} {args : Array Value} {w : World} {x : Ending} (h : Calls P f args w fun e w' => e = x ∧ w' = w) : Calls P f args w fun e w' => e = x ∧ w = w' := h.mono fun _ _ h => ⟨h.1, h.2.symm⟩
end Go.Proofs.YtpphpnkijokffaaGreatDoor
