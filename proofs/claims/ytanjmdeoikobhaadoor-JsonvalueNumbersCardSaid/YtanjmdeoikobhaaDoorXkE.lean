/- Packed from the texts JsC JsE. -/
import Derived.Test.YtanjmdeoikobhaaDoorXkB
import Derived.Test.YtanjmdeoikobhaaDoorXkC
import Derived.Test.YtanjmdeoikobhaaDoorXkD
import Derived.Deep.AppendLies
import Derived.Deep.RegionLaw
section
namespace Go.Proofs.YtanjmdeoikobhaaDoor
open Go.RowKit Go.Lib
theorem jix (s : ByteArray) (k : IntKind) (i : Int) (n : Nat) (hn : i = (n : Int)) (h1 : n < s.size) (w : World) : (Instr.index 9 (.string s) (.int k i)).run Tryd.prog w = .ok (.int .u8 ((s.data.toList.getD n 0).toNat : Int)) w := by
  subst hn
  have hl : n < s.data.toList.length := by simpa using h1
  have hg : s.data.toList.getD n 0 = s[n]'h1 := by
    rw [List.getD_eq_getElem?_getD, List.getElem?_eq_getElem hl]
    simp [ByteArray.getElem_eq_getElem_data]
  rw [run_index_string (P := Tryd.prog) (w := w) 9 s k (n : Int) Tryd.underlying9, hg]
  simp [h1]
theorem j_getD (l : List UInt8) (k j : Nat) : (l.drop k).getD j 0 = l.getD (k + j) 0 := by
  rw [List.getD_eq_getElem?_getD, List.getD_eq_getElem?_getD, List.getElem?_drop]
theorem u8_at (x n : UInt8) : x = n ↔ (x.toNat : Int) = (n.toNat : Int) := ⟨fun h => by rw [h], fun h => UInt8.toNat_inj.1 (by omega)⟩
def hexB : Nat → Int | 0 => 1 | 1 => 16 | 2 => 256 | 3 => 4096 | _ => 65536
theorem hexB_step : ∀ (k : Nat) (m v : Int), k < 4 → m < hexB k → v ≤ 15 → m * 16 + v < hexB (k + 1)
  | 0, m, v, _, h, hv => by simp only [hexB] at *; omega
  | 1, m, v, _, h, hv => by simp only [hexB] at *; omega
  | 2, m, v, _, h, hv => by simp only [hexB] at *; omega
  | 3, m, v, _, h, hv => by simp only [hexB] at *; omega
  | k + 4, _, _, h, _, _ => by omega
theorem hexB_le : ∀ k : Nat, hexB k ≤ 65536
  | 0 => by decide
  | 1 => by decide
  | 2 => by decide
  | 3 => by decide
  | k + 4 => by simp [hexB]
end Go.Proofs.YtanjmdeoikobhaaDoor
end
section
namespace Go.Proofs.YtanjmdeoikobhaaDoor
open Go.RowKit
theorem jretP {a : List UInt8} {b c : Int} {p : List UInt8 × Int × Int} (h : p = (a, b, c)) : Ending.returned (.tuple #[.string (ofBytes a), .int .i64 b, .int .i64 c]) = .returned (.tuple #[.string (ofBytes p.1), .int .i64 p.2.1, .int .i64 p.2.2]) := by subst h; rfl
end Go.Proofs.YtanjmdeoikobhaaDoor
end
