/- Packed from the texts MeA MeC. -/
import Derived.Test.YtbfalppeifkjdaaGreatDoorXk5
import Derived.Test.YtbfalppeifkjdaaGreatDoorXk6
import Derived.Test.YtbfalppeifkjdaaGreatDoorXk7
import Derived.Test.YtbfalppeifkjdaaGreatDoorXk8
section
namespace Go.Proofs.YtbfalppeifkjdaaGreatDoor
open Go.RowKit
theorem mc_nanI (t : Int) (w : World) : Calls Tryz.prog 90 #[.int .i64 t] w fun e w' => e = .returned (.bool false) ∧ w = w' := by
  go_enter Tryz.func90, Tryz.ntmps90
  go_wp2
  go_ret
  exact ⟨retb (by simp), rfl⟩
theorem mc_nanS (s : ByteArray) (w : World) : Calls Tryz.prog 91 #[.string s] w fun e w' => e = .returned (.bool false) ∧ w = w' := by
  go_enter Tryz.func91, Tryz.ntmps91
  go_wp2
  go_ret
  exact ⟨retb (by simp), rfl⟩
theorem mc_int (a b : Int) (w : World) : Calls Tryz.prog 75 #[.int .i64 a, .int .i64 b] w fun e w' => e = .returned (.int .i64 (cmpU b a)) ∧ w = w' := by
  have c1 := fun wx => mc_nanI a wx
  have c2 := fun wx => mc_nanI b wx
  unfold cmpU
  by_cases h1 : a < b
  · rw [if_pos h1]
    go_enter Tryz.func75, Tryz.ntmps75
    go_wp2_with (first | (go_at_call_of 90 (Value.int .i64 a); refine (c1 _).mono ?_; rintro e w1 ⟨rfl, rfl⟩) | (go_at_call_of 90 (Value.int .i64 b); refine (c2 _).mono ?_; rintro e w1 ⟨rfl, rfl⟩))
    go_ret
    exact ⟨rfl, rfl⟩
  · rw [if_neg h1]
    by_cases h2 : b < a
    · rw [if_pos h2]
      go_enter Tryz.func75, Tryz.ntmps75
      go_wp2_with (first | (go_at_call_of 90 (Value.int .i64 a); refine (c1 _).mono ?_; rintro e w1 ⟨rfl, rfl⟩) | (go_at_call_of 90 (Value.int .i64 b); refine (c2 _).mono ?_; rintro e w1 ⟨rfl, rfl⟩))
      go_ret
      exact ⟨rfl, rfl⟩
    · rw [if_neg h2]
      go_enter Tryz.func75, Tryz.ntmps75
      go_wp2_with (first | (go_at_call_of 90 (Value.int .i64 a); refine (c1 _).mono ?_; rintro e w1 ⟨rfl, rfl⟩) | (go_at_call_of 90 (Value.int .i64 b); refine (c2 _).mono ?_; rintro e w1 ⟨rfl, rfl⟩))
      go_ret
      exact ⟨rfl, rfl⟩
theorem mc_string (a b : ByteArray) (w : World) : Calls Tryz.prog 76 #[.string a, .string b] w fun e w' => e = .returned (.int .i64 (cmpS a b)) ∧ w = w' := by
  have c1 := fun wx => mc_nanS a wx
  have c2 := fun wx => mc_nanS b wx
  have hR : cmpS a b = if Op.bytesLess a.toList b.toList = true then -1 else if Op.bytesLess b.toList a.toList = true then 1 else 0 := by
    rw [ByteArray.toList_eq, ByteArray.toList_eq]
    rfl
  rw [hR]
  clear hR
  have hirr : Op.bytesLess a.toList b.toList = false → Op.bytesLess b.toList a.toList = false → a.toList = b.toList := fun h1 h2 => bl_total _ _ h1 h2
  have hirr2 : Op.bytesLess b.toList a.toList = true → ¬ b.toList = a.toList := fun h1 h2 => by
    rw [h2, bl_irr] at h1
    cases h1
  have H1 := Lib.hid hirr
  have H2 := Lib.hid hirr2
  clear hirr hirr2
  cases hx : Op.bytesLess a.toList b.toList
  · rw [if_neg (by simp)]
    cases hy : Op.bytesLess b.toList a.toList
    · rw [if_neg (by simp)]
      obtain rfl : a = b := by
        have := H1.out hx hy
        rw [ByteArray.toList_eq, ByteArray.toList_eq] at this
        exact ByteArray.ext (Array.ext' this)
      go_enter Tryz.func76, Tryz.ntmps76
      go_wp2_with (first | (go_at_call 91; refine (c1 _).mono ?_; rintro e w1 ⟨rfl, rfl⟩))
      go_ret
      exact ⟨rfl, rfl⟩
    · rw [if_pos rfl]
      have n1 : ¬ b.toList = a.toList := H2.out hy
      have n2 : (b.toList == a.toList) = false := beq_eq_false_iff_ne.2 n1
      have n3 : ¬ a.toList = b.toList := fun e => n1 e.symm
      have n4 : (a.toList == b.toList) = false := beq_eq_false_iff_ne.2 n3
      go_enter Tryz.func76, Tryz.ntmps76
      go_wp2_with (first | (go_at_call_of 91 (Value.string a); refine (c1 _).mono ?_; rintro e w1 ⟨rfl, rfl⟩) | (go_at_call_of 91 (Value.string b); refine (c2 _).mono ?_; rintro e w1 ⟨rfl, rfl⟩))
      go_ret
      exact ⟨rfl, rfl⟩
  · rw [if_pos rfl]
    go_enter Tryz.func76, Tryz.ntmps76
    go_wp2_with (first | (go_at_call_of 91 (Value.string a); refine (c1 _).mono ?_; rintro e w1 ⟨rfl, rfl⟩) | (go_at_call_of 91 (Value.string b); refine (c2 _).mono ?_; rintro e w1 ⟨rfl, rfl⟩))
    go_ret
    exact ⟨rfl, rfl⟩
end Go.Proofs.YtbfalppeifkjdaaGreatDoor
end
section
namespace Go.Proofs.YtbfalppeifkjdaaGreatDoor
open Go.RowKit
theorem mu_below {w w' : World} (h : HasUtf8 w) (hb : Below w.heap.size w w') : HasUtf8 w' := Utf8Tabs_below h hb
end Go.Proofs.YtbfalppeifkjdaaGreatDoor
end
