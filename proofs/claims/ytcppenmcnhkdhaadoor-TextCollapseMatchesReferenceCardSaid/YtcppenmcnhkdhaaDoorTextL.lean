/- The walks of the laws of layer 1: each law returns true for every input, and changes nothing that was there. -/
import Derived.Test.YtcppenmcnhkdhaaDoorTextW
namespace Go.Proofs.YtcppenmcnhkdhaaDoor
open Go.RowKit Go.Lib

set_option maxRecDepth 100000 in
set_option maxHeartbeats 4000000 in
theorem walk_TextClasses (r c : Int) (w : World) (hr0 : -2147483648 ≤ r) (hr1 : r ≤ 2147483647) (hT : HasTabs w) :
    Calls Tryd.prog 5 #[.int .i32 r, .int .u8 c] w fun e w' => e = .returned (.bool true) ∧ Below w.heap.size w w' := by
  have c1 := text_IsChar r
  have c2 := ref_IsChar r
  have c3 : ∀ wx, HasSpans wx → _ := text_IsNameStart r
  have c4 := ref_IsNameStart r
  have c5 : ∀ wx, HasSpans wx → _ := text_IsNameChar r
  have c6 := ref_IsNameChar r
  have c7 := text_IsSpace c
  have c8 := ref_IsSpace c
  generalize isCharB r = v1 at c1 c2
  generalize nameStartB r = v2 at c3 c4
  generalize nameCharB r = v3 at c5 c6
  generalize isSpaceB c = v4 at c7 c8
  go_enter Tryd.func5, Tryd.ntmps5
  go_wp2_with fail
  refine (law_alive _ hT).mono ?_
  rintro e w1 ⟨rfl, b1⟩
  have t1 := HasTabs_below hT b1
  go_wp2_with fail
  refine (c1 _).mono ?_
  rintro e w2 ⟨rfl, rfl⟩
  go_wp2_with fail
  refine (c2 _).mono ?_
  rintro e w3 ⟨rfl, rfl⟩
  go_wp2_with fail
  refine (c3 _ t1.2).mono ?_
  rintro e w4 ⟨rfl, b4⟩
  have t4 := HasTabs_below t1 b4
  go_wp2_with fail
  refine (c4 _).mono ?_
  rintro e w5 ⟨rfl, rfl⟩
  go_wp2_with fail
  refine (c5 _ t4.2).mono ?_
  rintro e w6 ⟨rfl, b6⟩
  go_wp2_with fail
  refine (c6 _).mono ?_
  rintro e w7 ⟨rfl, rfl⟩
  go_wp2_with fail
  refine (c7 _).mono ?_
  rintro e w8 ⟨rfl, rfl⟩
  go_wp2_with fail
  refine (c8 _).mono ?_
  rintro e w9 ⟨rfl, rfl⟩
  go_wp2
  go_ret
  have s1 := b1.size; have s4 := b4.size
  exact ⟨by simp, (b1.trans (b4.mono (by omega))).trans (b6.mono (by omega))⟩

set_option maxRecDepth 100000 in
set_option maxHeartbeats 4000000 in
theorem walk_TextDecode (s : ByteArray) (a : Int) (w : World) (hs : s.size ≤ maxLen) (hT : HasTabs w) :
    Calls Tryd.prog 3 #[.string s, .int .i64 a] w fun e w' => e = .returned (.bool true) ∧ Below w.heap.size w w' := by
  by_cases h5 : (5000 : Int) < (s.size : Int)
  · go_enter Tryd.func3, Tryd.ntmps3
    go_wp2_with fail
    refine (law_alive _ hT).mono ?_
    rintro e w1 ⟨rfl, b1⟩
    go_wp2
    go_ret
    exact ⟨rfl, b1⟩
  have hr : (decI s a).1 ≤ 1114111 := by
    unfold decI
    split
    · simp
    · exact (decP_ok s _ (by omega)).2.2.1
  have c1 : ∀ wx, HasUtf8 wx → _ := fun wx => text_Decode s a wx hs
  have c2 : ∀ wx, _ := fun wx => ref_Decode s a wx hs
  generalize decI s a = d at c1 c2 hr
  obtain ⟨r, n⟩ := d
  simp only at c1 c2 hr
  have hrz : (r : Int) ≤ 1114111 := by omega
  clear hr
  go_enter Tryd.func3, Tryd.ntmps3
  go_wp2_with fail
  refine (c1 _ hT.1).mono ?_
  rintro e w1 ⟨rfl, b1⟩
  have t1 := HasTabs_below hT b1
  go_wp2_with fail
  refine (c2 _).mono ?_
  rintro e w2 ⟨rfl, b2⟩
  have t2 := HasTabs_below t1 b2
  go_wp2_with fail
  refine (law_alive _ t2).mono ?_
  rintro e w3 ⟨rfl, b3⟩
  go_wp2
  go_ret
  have s1 := b1.size; have s2 := b2.size
  exact ⟨by simp, (b1.trans (b2.mono (by omega))).trans (b3.mono (by omega))⟩

set_option maxRecDepth 100000 in
set_option maxHeartbeats 4000000 in
theorem walk_TextCheck (s : ByteArray) (w : World) (hs : s.size ≤ maxLen) (hT : HasTabs w) :
    Calls Tryd.prog 4 #[.string s] w fun e w' => e = .returned (.bool true) ∧ Below w.heap.size w w' := by
  by_cases h5 : (5000 : Int) < (s.size : Int)
  · go_enter Tryd.func4, Tryd.ntmps4
    go_wp2_with fail
    refine (law_alive _ hT).mono ?_
    rintro e w1 ⟨rfl, b1⟩
    go_wp2
    go_ret
    exact ⟨rfl, b1⟩
  have c1 : ∀ wx, HasTabs wx → _ := fun wx => text_Check s wx hs
  have c2 : ∀ wx, _ := fun wx => ref_Check s wx hs
  have c3 : ∀ wx, HasTabs wx → _ := fun wx => text_Valid s wx (by omega)
  have c4 : ∀ wx, _ := fun wx => ref_Valid s wx (by omega)
  generalize chk s = d at c1 c2
  generalize validB s = v at c3 c4
  obtain ⟨r, n⟩ := d
  simp only at c1 c2
  go_enter Tryd.func4, Tryd.ntmps4
  go_wp2_with fail
  refine (c1 _ hT).mono ?_
  rintro e w1 ⟨rfl, b1⟩
  have t1 := HasTabs_below hT b1
  go_wp2_with fail
  refine (c2 _).mono ?_
  rintro e w2 ⟨rfl, b2⟩
  have t2 := HasTabs_below t1 b2
  go_wp2_with fail
  refine (law_alive _ t2).mono ?_
  rintro e w3 ⟨rfl, b3⟩
  have t3 := HasTabs_below t2 b3
  go_wp2_with fail
  refine (c3 _ t3).mono ?_
  rintro e w4 ⟨rfl, b4⟩
  go_wp2_with fail
  refine (c4 _).mono ?_
  rintro e w5 ⟨rfl, b5⟩
  go_wp2
  go_ret
  have s1 := b1.size; have s2 := b2.size; have s3 := b3.size; have s4 := b4.size
  exact ⟨by simp, (((b1.trans (b2.mono (by omega))).trans (b3.mono (by omega))).trans (b4.mono (by omega))).trans (b5.mono (by omega))⟩
end Go.Proofs.YtcppenmcnhkdhaaDoor
