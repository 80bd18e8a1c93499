/- Packed from the texts EscB. -/
import Derived.Test.YtppmoeidgefkpaaDoorVEscA
import Derived.Lib.AppendStr
section
namespace Go.Proofs.YtppmoeidgefkpaaDoor
open Go.RowKit Go.Lib
def escB (attr : Bool) (c : UInt8) : List UInt8 :=
  if c.toNat = 38 then [38, 97, 109, 112, 59] else if c.toNat = 60 then [38, 108, 116, 59] else if c.toNat = 62 then [38, 103, 116, 59] else if c.toNat = 13 then [38, 35, 49, 51, 59]
  else if attr && c.toNat == 34 then [38, 113, 117, 111, 116, 59] else if attr && c.toNat == 9 then [38, 35, 57, 59] else if attr && c.toNat == 10 then [38, 35, 49, 48, 59] else [c]
def escP (attr : Bool) (l : List UInt8) : List UInt8 := l.flatMap (escB attr)
theorem escP_cons (attr : Bool) (c : UInt8) (r : List UInt8) : escP attr (c :: r) = escB attr c ++ escP attr r := by unfold escP; rw [List.flatMap_cons]
theorem escB_len (attr : Bool) (c : UInt8) : (escB attr c).length ≤ 6 := by
  unfold escB
  repeat' split
  all_goals simp
theorem escP_len (attr : Bool) : ∀ l : List UInt8, (escP attr l).length ≤ 6 * l.length
  | [] => by simp [escP]
  | c :: r => by
    have h1 := escB_len attr c
    have h2 := escP_len attr r
    rw [escP_cons, List.length_append, List.length_cons]; omega
end Go.Proofs.YtppmoeidgefkpaaDoor
end
