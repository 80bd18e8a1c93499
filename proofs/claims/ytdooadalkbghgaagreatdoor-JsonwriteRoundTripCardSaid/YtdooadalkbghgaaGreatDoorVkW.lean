/- Packed from the texts JwF. -/
import Derived.Test.YtdooadalkbghgaaGreatDoorVkE
import Derived.Test.YtdooadalkbghgaaGreatDoorVkU
import Derived.Test.YtdooadalkbghgaaGreatDoorVkV
import Derived.Laws.BytesArg
import Derived.IntWalk
section
namespace Go.Proofs.YtdooadalkbghgaaGreatDoor
open Go.RowKit
theorem txVs_drop (l : List ValD) (i : Nat) (h : i < l.length) (b : Bool) : txVs b (l.drop i) = sepT b ++ (l[i].text ++ txVs false (l.drop (i + 1))) := by rw [List.drop_eq_getElem_cons h, txVs]
theorem txMs_drop (l : List MemD) (i : Nat) (h : i < l.length) (b : Bool) : txMs b (l.drop i) = sepT b ++ ((quoteJ l[i].key.data.toList ++ (58 :: l[i].v.text)) ++ txMs false (l.drop (i + 1))) := by rw [List.drop_eq_getElem_cons h, txMs, mtext_eq]
theorem okVs_at : ∀ (l : List ValD), okVs l = true → ∀ k ∈ l, k.okB = true
  | [], _, _, h => by cases h
  | x :: r, h, k, hk => by
    rw [okVs, Bool.and_eq_true] at h
    rcases List.mem_cons.1 hk with rfl | hk
    · exact h.1
    · exact okVs_at r h.2 k hk
theorem okMs_at : ∀ (l : List MemD) (keys : List ByteArray), okMs keys l = true → ∀ m ∈ l, vaL m.key.data.toList = true ∧ m.v.okB = true
  | [], _, _, _, h => by cases h
  | x :: r, keys, h, m, hm => by
    rw [okMs, Bool.and_eq_true, Bool.and_eq_true, Bool.and_eq_true, mok_eq] at h
    rcases List.mem_cons.1 hm with rfl | hm
    · exact h.1.2
    · exact okMs_at r _ h.2 m hm
theorem quote_ok (l : List UInt8) (h : vaL l = true) : quoteP l = (quoteJ l, 0) := by unfold quoteP; rw [if_pos h]
def wrZ (n : ValD) : ByteArray := if validB n = true then ofBytes n.text else ⟨#[]⟩
theorem wrP (n : ValD) : (chkZ n = 0 ∧ wrZ n = ofBytes n.text ∧ n.okB = true) ∨ (chkZ n = 22 ∧ wrZ n = ⟨#[]⟩) := by
  unfold chkZ wrZ
  rcases h : validB n with _ | _
  · exact .inr ⟨rfl, rfl⟩
  · refine .inl ⟨rfl, rfl, ?_⟩
    unfold validB at h
    rw [Bool.and_eq_true] at h
    exact h.1
end Go.Proofs.YtdooadalkbghgaaGreatDoor
end
