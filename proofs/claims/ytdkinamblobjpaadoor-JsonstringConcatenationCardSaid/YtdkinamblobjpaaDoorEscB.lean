/- The reference of layer 5: Escape: what it returns. -/
import Derived.Test.YtdkinamblobjpaaDoorEscA
import Derived.Lib.AppendStr
namespace Go.Proofs.YtdkinamblobjpaaDoor
open Go.RowKit Go.Lib

theorem einfo_u8 : (Tryd.prog.info? 5).map (fun i => (i.zero, i.size, i.bytes)) = some (some (.int .u8 0), 1, 1) := by kernel_rfl
/-- What is written for a byte. -/
def escB (attr : Bool) (c : UInt8) : List UInt8 :=
  if c.toNat = 38 then [38, 97, 109, 112, 59] else if c.toNat = 60 then [38, 108, 116, 59] else if c.toNat = 62 then [38, 103, 116, 59] else if c.toNat = 13 then [38, 35, 49, 51, 59]
  else if attr && c.toNat == 34 then [38, 113, 117, 111, 116, 59] else if attr && c.toNat == 9 then [38, 35, 57, 59] else if attr && c.toNat == 10 then [38, 35, 49, 48, 59] else [c]
def escP (attr : Bool) (l : List UInt8) : List UInt8 := l.flatMap (escB attr)
theorem escP_cons (attr : Bool) (c : UInt8) (r : List UInt8) : escP attr (c :: r) = escB attr c ++ escP attr r := by unfold escP; rw [List.flatMap_cons]
theorem escP_app (attr : Bool) (a b : List UInt8) : escP attr (a ++ b) = escP attr a ++ escP attr b := by unfold escP; rw [List.flatMap_append]
theorem escB_len (attr : Bool) (c : UInt8) : (escB attr c).length ≤ 6 := by
  unfold escB
  repeat' split
  all_goals simp
theorem escP_len (attr : Bool) : ∀ l : List UInt8, (escP attr l).length ≤ 6 * l.length
  | [] => by simp [escP]
  | c :: r => by
    have h1 := escB_len attr c
    have h2 := escP_len attr r
    rw [escP_cons, List.length_append, List.length_cons]; omega
theorem strCells_u8 (s : ByteArray) : strCells s = u8s s.data.toList := rfl
theorem own_push_list {w : World} {base : Nat} {e : TypeId} {v' : Value} {acc l : List UInt8} {n : Nat} (hn : l.length = n) (h : w.ownsRow base e 1 v' (acc.length + n) (u8s acc ++ u8s l)) :
    ∃ A c, v' = .slice A (acc ++ l).length c ∧ w.ownsRow base e 1 (.slice A (acc ++ l).length c) (acc ++ l).length (u8s (acc ++ l)) := by
  obtain ⟨A, c, rfl⟩ := own_form h
  rw [u8s_append, List.length_append, hn]
  exact ⟨A, c, rfl, h⟩

end Go.Proofs.YtdkinamblobjpaaDoor
