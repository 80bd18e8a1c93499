/- The reference of layer 5: digit, number, named: what each returns. -/
import Derived.Test.YtdkinamblobjpaaDoorChecked
import Derived.Test.YtdkinamblobjpaaDoorKit
import Derived.Test.YtdkinamblobjpaaDoorTextA
namespace Go.Proofs.YtdkinamblobjpaaDoor
open Go.RowKit

theorem eretI {k : IntKind} {a b : Int} (h : a = b) : Ending.returned (.int k a) = .returned (.int k b) := by rw [h]
def digI (c : Int) : Int := if 48 ≤ c ∧ c ≤ 57 then c - 48 else if 97 ≤ c ∧ c ≤ 102 then c - 87 else if 65 ≤ c ∧ c ≤ 70 then c - 55 else 16
theorem digI_bd (c : Int) : 0 ≤ digI c ∧ digI c ≤ 16 := by
  unfold digI
  split
  · omega
  · split
    · omega
    · split <;> omega
/-- The number that digits write, from a number on; -1 if something else stands among them. Numbers stop at two millions. -/
def numR (base : Int) : List UInt8 → Int → Int
  | [], n => n
  | c :: r, n => if base ≤ digI (c.toNat : Int) then -1 else numR base r (if 2000000 < n * base + digI (c.toNat : Int) then 2000000 else n * base + digI (c.toNat : Int))
def numB (base : Int) (l : List UInt8) : Int := if l.isEmpty then -1 else numR base l 0
theorem numR_bd (base : Int) (hb : 0 ≤ base) : ∀ (l : List UInt8) (n : Int), 0 ≤ n → n ≤ 2000000 → -1 ≤ numR base l n ∧ numR base l n ≤ 2000000
  | [], n, h0, h1 => by rw [numR]; omega
  | c :: r, n, h0, h1 => by
    have hd := digI_bd (c.toNat : Int)
    have hm : 0 ≤ n * base := Int.mul_nonneg h0 hb
    rw [numR]
    split
    · omega
    · exact numR_bd base hb r _ (by split <;> omega) (by split <;> omega)
theorem numB_bd (base : Int) (hb : 0 ≤ base) (l : List UInt8) : -1 ≤ numB base l ∧ numB base l ≤ 2000000 := by
  unfold numB
  split
  · omega
  · exact numR_bd base hb l 0 (by omega) (by omega)
def namedP (l : List UInt8) : Int := if l = [108, 116] then 60 else if l = [103, 116] then 62 else if l = [97, 109, 112] then 38 else if l = [97, 112, 111, 115] then 39 else if l = [113, 117, 111, 116] then 34 else -1
theorem namedP_bd (l : List UInt8) : -1 ≤ namedP l ∧ namedP l ≤ 62 := by
  unfold namedP
  repeat (first | omega | split)
end Go.Proofs.YtdkinamblobjpaaDoor
