/- Packed from the texts EscV. -/
import Derived.Test.YtpmkapamlhnmpaaGreatDoorRBldr
import Derived.Test.YtpmkapamlhnmpaaGreatDoorREscI
section
namespace Go.Proofs.YtpmkapamlhnmpaaGreatDoor
open Go.RowKit
theorem enc_eb (r : Int) (h : isCharB r = true) : Lib.encodeRune r = eb r := by
  have h := of_decide_eq_true h
  have hn : ¬ (r < 0 ∨ 1114111 < r ∨ (55296 ≤ r ∧ r ≤ 57343)) := by omega
  have he : Lib.encodeRuneZ r = encZ r := by
    unfold encZ
    rw [if_neg hn]
    by_cases h1 : r < 128
    · rw [if_pos h1, Lib.encodeRuneZ_one (by omega) (by omega)]
    · rw [if_neg h1]
      by_cases h2 : r < 2048
      · rw [if_pos h2, Lib.encodeRuneZ_two (by omega) (by omega)]
      · rw [if_neg h2]
        by_cases h3 : r < 65536
        · rw [if_pos h3, Lib.encodeRuneZ_three (by omega)]
        · rw [if_neg h3, Lib.encodeRuneZ_four (by omega) (by omega)]
  unfold Lib.encodeRune eb
  rw [he]
end Go.Proofs.YtpmkapamlhnmpaaGreatDoor
end
