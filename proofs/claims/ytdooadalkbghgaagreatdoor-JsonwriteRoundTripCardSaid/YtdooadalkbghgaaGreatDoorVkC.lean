/- Packed from the texts StrK EscC. -/
import Derived.Test.YtdooadalkbghgaaGreatDoorVkA
import Derived.Test.YtdooadalkbghgaaGreatDoorChecked
import Derived.Lib.AppendStr
import Derived.WalkKit
import Derived.WalkSpells
section
namespace Go.Proofs.YtdooadalkbghgaaGreatDoor
open Go.RowKit
theorem slice_to (f : ByteArray) (k : Int) (h0 : 0 ≤ k) (h1 : k ≤ (f.size : Int)) (w : World) : (Instr.slice 9 (.string f) none (some (.int .i64 k)) none).run Tryz.prog w = .ok (.string (f.extract 0 k.toNat)) w := by
  rw [run_slice_string_to_if (P := Tryz.prog) w 9 f .i64 k Tryz.underlying9, if_pos ⟨h0, h1⟩]
theorem slice_from (f : ByteArray) (k : Int) (h0 : 0 ≤ k) (h1 : k ≤ (f.size : Int)) (w : World) : (Instr.slice 9 (.string f) (some (.int .i64 k)) none none).run Tryz.prog w = .ok (.string (f.extract k.toNat f.size)) w := by
  rw [run_slice_string_from_if (P := Tryz.prog) w 9 f .i64 k Tryz.underlying9, if_pos ⟨h0, h1⟩]
theorem slice_mid (f : ByteArray) (j k : Int) (h0 : 0 ≤ j) (h1 : j ≤ k) (h2 : k ≤ (f.size : Int)) (w : World) : (Instr.slice 9 (.string f) (some (.int .i64 j)) (some (.int .i64 k)) none).run Tryz.prog w = .ok (.string (f.extract j.toNat k.toNat)) w := by
  rw [run_slice_string (P := Tryz.prog) (w := w) 9 f .i64 .i64 j k Tryz.underlying9 h0 h1 h2]
end Go.Proofs.YtdooadalkbghgaaGreatDoor
end
section
namespace Go.Proofs.YtdooadalkbghgaaGreatDoor
open Go.RowKit
theorem estr_ext {a b : ByteArray} (h : a.data.toList = b.data.toList) : a = b := by
  cases a; cases b; simp at h; simp [h]
theorem eext (s : ByteArray) (f k : Nat) : s.extract f k = ofBytes ((s.data.toList.drop f).take (k - f)) := by
  apply estr_ext
  rw [ofBytes_list]
  simp only [ByteArray.data_extract, Array.toList_extract, List.extract_eq_take_drop]
def eb (r : Int) : List UInt8 := (encZ r).map fun n => UInt8.ofNat n.toNat
theorem eb_len (r : Int) : (eb r).length ≤ 4 := by
  unfold eb encZ
  rw [List.length_map]
  repeat' split
  all_goals simp
end Go.Proofs.YtdooadalkbghgaaGreatDoor
end
