/- Packed from the texts TextD. -/
import Derived.Test.YtppmoeidgefkpaaDoorVShelf
import Derived.Test.YtppmoeidgefkpaaDoorVTextA
import Derived.Shelf.Unicode.DecodeSlow
import Derived.Below
section
namespace Go.Proofs.YtppmoeidgefkpaaDoor
open Go.RowKit Go.Lib
def decP (s : ByteArray) (i : Nat) : Nat × Nat :=
  if Utf8.decode s i = (65533, 1) then (0, 0) else Utf8.decode s i
def decI (s : ByteArray) (a : Int) : Nat × Nat := if a < 0 ∨ (s.size : Int) ≤ a then (0, 0) else decP s a.toNat
theorem get!_extract (s : ByteArray) (i j : Nat) : (s.extract i s.size).get! j = s.get! (i + j) := by
  have hl : (s.extract i s.size).size = s.size - i := by simp
  by_cases h : i + j < s.size
  · rw [Utf8W.get!_of_lt _ _ (by omega), Utf8W.get!_of_lt _ _ h]
    simp [ByteArray.getElem_extract]
  · have h1 : ¬ j < (s.extract i s.size).size := by omega
    have out : ∀ (t : ByteArray) (k : Nat), ¬ k < t.size → t.get! k = default := fun t k hk => by
      cases t with
      | mk d => exact getElem!_neg d k hk
    rw [out _ _ h1, out _ _ h]
theorem decodeGo_extract (s : ByteArray) (i : Nat) (h : i < s.size) : decodeGo (s.extract i s.size) = Utf8.decode s i := by
  have hl : (s.extract i s.size).size = s.size - i := by simp
  unfold decodeGo
  rw [if_neg (by omega), decode_at, decode_at, hl]
  simp only [get!_extract, Nat.zero_add, Nat.sub_zero, Nat.add_zero]
def HasUtf8 (w : World) : Prop := Lib.Utf8Tabs 0 1 w
set_option maxHeartbeats 1000000 in
theorem text_Decode (s : ByteArray) (a : Int) (w : World) (_hs : s.size ≤ maxLen) (hT : HasUtf8 w) :
    Calls Tryd.prog 53 #[.string s, .int .i64 a] w fun e w' => e = .returned (.tuple #[.int .i32 (decI s a).1, .int .i64 (decI s a).2]) ∧ Below w.heap.size w w' := by
  by_cases h0 : a < 0
  · rw [decI, if_pos (.inl h0)]
    go_enter Tryd.func53, Tryd.ntmps53
    go_wp2
    all_goals go_ret2
    all_goals exact ⟨rfl, Below.refl _ _⟩
  obtain ⟨n, rfl⟩ := Int.eq_ofNat_of_zero_le (by omega : 0 ≤ a)
  by_cases h1 : s.size ≤ n
  · rw [decI, if_pos (.inr (by omega))]
    go_enter Tryd.func53, Tryd.ntmps53
    go_wp2
    all_goals go_ret2
    all_goals exact ⟨rfl, Below.refl _ _⟩
  have hd : decI s n = decP s n := by rw [decI, if_neg (by omega)]; simp
  rw [hd]
  have hc := Tryd.utf8_DecodeRuneInString (s.extract n s.size) w hT
  rw [decodeGo_extract s n (by omega)] at hc
  unfold decP
  clear hd
  generalize Utf8.decode s n = d at hc ⊢
  obtain ⟨r, m⟩ := d
  by_cases hr : r = 65533 ∧ m = 1
  · obtain ⟨rfl, rfl⟩ := hr
    rw [if_pos rfl]
    go_enter Tryd.func53, Tryd.ntmps53
    go_wp2_with (go_at_call 56; refine hc.mono ?_; rintro e w1 ⟨rfl, hb⟩)
    all_goals go_ret2
    all_goals exact ⟨rfl, hb⟩
  · rw [if_neg (by simpa using hr)]
    by_cases h5 : r = 65533
    · subst h5
      have hm : ((m : Int) == 1) = false := by simp at hr; simp; omega
      go_enter Tryd.func53, Tryd.ntmps53
      go_wp2_with (go_at_call 56; refine hc.mono ?_; rintro e w1 ⟨rfl, hb⟩)
      all_goals go_ret2
      all_goals exact ⟨rfl, hb⟩
    · have hm : ((r : Int) == 65533) = false := by simp; omega
      go_enter Tryd.func53, Tryd.ntmps53
      go_wp2_with (go_at_call 56; refine hc.mono ?_; rintro e w1 ⟨rfl, hb⟩)
      all_goals go_ret2
      all_goals exact ⟨rfl, hb⟩
end Go.Proofs.YtppmoeidgefkpaaDoor
end
