/- Encode of the reference of layer 1. -/
import Derived.Test.YtdkinamblobjpaaDoorKit
import Derived.Test.YtdkinamblobjpaaDoorChecked
namespace Go.Proofs.YtdkinamblobjpaaDoor
open Go.RowKit

/-- The reference's Encode, as a list of numbers. -/
def encZ (r : Int) : List Int :=
  if r < 0 ∨ 1114111 < r ∨ (55296 ≤ r ∧ r ≤ 57343) then []
  else if r < 128 then [r]
  else if r < 2048 then [192 + r / 64, 128 + r % 64]
  else if r < 65536 then [224 + r / 4096, 128 + r / 64 % 64, 128 + r % 64]
  else [240 + r / 262144, 128 + r / 4096 % 64, 128 + r / 64 % 64, 128 + r % 64]

theorem conv1 (w : World) (a : Int) : (convert 38 9 (.slice (some ⟨w.heap.size, 0, none⟩) 1 1)).run Tryd.prog (w.alloc (.cells #[.int .u8 a] 5)) = .ok (.string (strOfNums [a])) (w.alloc (.cells #[.int .u8 a] 5)) :=
  run_convert_bytes_arg _ 38 5 Tryd.underlying38 Tryd.underlying5 _ 0 1 1 [a] rfl (fun i hi => by
    match i, hi with
    | 0, _ => simp) 9 Tryd.underlying9
theorem conv2 (w : World) (a b : Int) : (convert 38 9 (.slice (some ⟨w.heap.size, 0, none⟩) 2 2)).run Tryd.prog (w.alloc (.cells #[.int .u8 a, .int .u8 b] 5)) = .ok (.string (strOfNums [a, b])) (w.alloc (.cells #[.int .u8 a, .int .u8 b] 5)) :=
  run_convert_bytes_arg _ 38 5 Tryd.underlying38 Tryd.underlying5 _ 0 2 2 [a, b] rfl (fun i hi => by
    match i, hi with
    | 0, _ => simp
    | 1, _ => simp) 9 Tryd.underlying9
theorem conv3 (w : World) (a b c : Int) : (convert 38 9 (.slice (some ⟨w.heap.size, 0, none⟩) 3 3)).run Tryd.prog (w.alloc (.cells #[.int .u8 a, .int .u8 b, .int .u8 c] 5)) = .ok (.string (strOfNums [a, b, c])) (w.alloc (.cells #[.int .u8 a, .int .u8 b, .int .u8 c] 5)) :=
  run_convert_bytes_arg _ 38 5 Tryd.underlying38 Tryd.underlying5 _ 0 3 3 [a, b, c] rfl (fun i hi => by
    match i, hi with
    | 0, _ => simp
    | 1, _ => simp
    | 2, _ => simp) 9 Tryd.underlying9
theorem conv4 (w : World) (a b c d : Int) : (convert 38 9 (.slice (some ⟨w.heap.size, 0, none⟩) 4 4)).run Tryd.prog (w.alloc (.cells #[.int .u8 a, .int .u8 b, .int .u8 c, .int .u8 d] 5)) = .ok (.string (strOfNums [a, b, c, d])) (w.alloc (.cells #[.int .u8 a, .int .u8 b, .int .u8 c, .int .u8 d] 5)) :=
  run_convert_bytes_arg _ 38 5 Tryd.underlying38 Tryd.underlying5 _ 0 4 4 [a, b, c, d] rfl (fun i hi => by
    match i, hi with
    | 0, _ => simp
    | 1, _ => simp
    | 2, _ => simp
    | 3, _ => simp) 9 Tryd.underlying9

set_option maxRecDepth 100000 in
set_option maxHeartbeats 2000000 in
theorem ref_Encode (r : Int) (w : World) :
    Calls Tryd.prog 15 #[.int .i64 r] w fun e w' => e = .returned (.string (strOfNums (encZ r))) ∧ Below w.heap.size w w' := by
  by_cases h0 : r < 0
  · have he : encZ r = [] := by rw [encZ, if_pos (.inl h0)]
    rw [he]
    clear he
    go_enter Tryd.func15, Tryd.ntmps15
    go_wp2
    all_goals go_ret
    all_goals exact ⟨rfl, Below.refl _ _⟩
  by_cases h1 : 1114111 < r
  · have he : encZ r = [] := by rw [encZ, if_pos (.inr (.inl h1))]
    rw [he]
    clear he
    go_enter Tryd.func15, Tryd.ntmps15
    go_wp2
    all_goals go_ret
    all_goals exact ⟨rfl, Below.refl _ _⟩
  by_cases h2 : (55296 : Int) ≤ r ∧ r ≤ 57343
  · have he : encZ r = [] := by rw [encZ, if_pos (.inr (.inr h2))]
    rw [he]
    clear he
    obtain ⟨h2a, h2b⟩ := h2
    go_enter Tryd.func15, Tryd.ntmps15
    go_wp2
    all_goals go_ret
    all_goals exact ⟨rfl, Below.refl _ _⟩
  have hn0 : ¬ (r < 0 ∨ 1114111 < r ∨ (55296 ≤ r ∧ r ≤ 57343)) := by omega
  have hsur : ¬ r ≥ 55296 ∨ ¬ r ≤ 57343 := by omega
  clear h2
  by_cases h3 : r < 128
  · have hlo : ¬ r ≥ 55296 := by omega
    have he : encZ r = [r] := by rw [encZ, if_neg hn0, if_pos h3]
    rw [he]
    have hcv := conv1 w
    clear he hsur hn0
    go_enter Tryd.func15, Tryd.ntmps15
    go_wp2
    all_goals go_ret
    all_goals exact ⟨rfl, (Below.refl _ _).alloc (Nat.le_refl _) _⟩
  by_cases h4 : r < 2048
  · have hlo : ¬ r ≥ 55296 := by omega
    have he : encZ r = [192 + r / 64, 128 + r % 64] := by rw [encZ, if_neg hn0, if_neg h3, if_pos h4]
    rw [he]
    have hcv := conv2 w
    clear he hsur hn0
    go_enter Tryd.func15, Tryd.ntmps15
    go_wp2
    all_goals go_ret
    all_goals exact ⟨rfl, (Below.refl _ _).alloc (Nat.le_refl _) _⟩
  by_cases h5 : r < 65536
  · have he : encZ r = [224 + r / 4096, 128 + r / 64 % 64, 128 + r % 64] := by rw [encZ, if_neg hn0, if_neg h3, if_neg h4, if_pos h5]
    rw [he]
    have hcv := conv3 w
    clear he hn0
    rcases hsur with hlo | hlo
    all_goals
      go_enter Tryd.func15, Tryd.ntmps15
      go_wp2
      all_goals go_ret
      all_goals exact ⟨rfl, (Below.refl _ _).alloc (Nat.le_refl _) _⟩
  · have hlo : ¬ r ≤ 57343 := by omega
    have he : encZ r = [240 + r / 262144, 128 + r / 4096 % 64, 128 + r / 64 % 64, 128 + r % 64] := by rw [encZ, if_neg hn0, if_neg h3, if_neg h4, if_neg h5]
    rw [he]
    have hcv := conv4 w
    clear he hsur hn0
    go_enter Tryd.func15, Tryd.ntmps15
    go_wp2
    all_goals go_ret
    all_goals exact ⟨rfl, (Below.refl _ _).alloc (Nat.le_refl _) _⟩
end Go.Proofs.YtdkinamblobjpaaDoor
