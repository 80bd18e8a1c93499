/- The walks of four more laws of layer 1: names, collapsing, concatenation. -/
import Derived.Test.YtcppenmcnhkdhaaDoorTextW
import Derived.Test.YtcppenmcnhkdhaaDoorTextM
namespace Go.Proofs.YtcppenmcnhkdhaaDoor
open Go.RowKit Go.Lib

theorem app_data (s t : ByteArray) : (s ++ t).data.toList = s.data.toList ++ t.data.toList := by simp [ByteArray.data_append]

set_option maxRecDepth 100000 in
set_option maxHeartbeats 4000000 in
theorem walk_TextNames (s t : ByteArray) (w : World) (hs : s.size ≤ 140737488351232) (ht : t.size ≤ 140737488351232) (hT : HasTabs w) :
    Calls Tryd.prog 6 #[.string s, .string t] w fun e w' => e = .returned (.bool true) ∧ Below w.heap.size w w' := by
  by_cases h5 : (5000 : Int) < (s.size : Int) + (t.size : Int)
  · go_enter Tryd.func6, Tryd.ntmps6
    go_wp2_with fail
    refine (law_alive _ hT).mono ?_
    rintro e w1 ⟨rfl, b1⟩
    go_wp2
    go_ret
    exact ⟨rfl, b1⟩
  have c1 : ∀ wx, HasTabs wx → _ := fun wx => text_IsName s wx (by unfold maxLen; omega)
  have c2 : ∀ wx, HasTabs wx → _ := fun wx => text_IsName t wx (by unfold maxLen; omega)
  have c3 : ∀ wx, _ := fun wx => ref_IsName s wx (by unfold maxLen; omega)
  have c4 : ∀ wx, _ := fun wx => ref_IsName t wx (by unfold maxLen; omega)
  have c5 : ∀ wx, HasTabs wx → _ := fun wx => text_IsName (s ++ t) wx (by rw [ByteArray.size_append]; unfold maxLen; omega)
  have hap := name_append s t
  generalize isNameB (s ++ t) = v5 at c5 hap
  generalize isNameB s = v1 at c1 c3 hap
  generalize isNameB t = v2 at c2 c4 hap
  by_cases hboth : v1 = true ∧ v2 = true
  · obtain ⟨rfl, rfl⟩ := hboth
    obtain rfl : v5 = true := hap rfl rfl
    clear hap
    go_enter Tryd.func6, Tryd.ntmps6
    go_wp2_with fail
    refine (c1 _ hT).mono ?_
    rintro e w1 ⟨rfl, b1⟩
    have t1 := HasTabs_below hT b1
    go_wp2_with fail
    refine (c2 _ t1).mono ?_
    rintro e w2 ⟨rfl, b2⟩
    have t2 := HasTabs_below t1 b2
    go_wp2_with fail
    refine (law_alive _ t2).mono ?_
    rintro e w3 ⟨rfl, b3⟩
    have t3 := HasTabs_below t2 b3
    go_wp2_with fail
    refine (c3 _).mono ?_
    rintro e w4 ⟨rfl, b4⟩
    have t4 := HasTabs_below t3 b4
    go_wp2_with fail
    refine (c4 _).mono ?_
    rintro e w5 ⟨rfl, b5⟩
    have t5 := HasTabs_below t4 b5
    go_wp2_with fail
    refine (c5 _ t5).mono ?_
    rintro e w6 ⟨rfl, b6⟩
    go_wp2
    go_ret
    have s1 := b1.size; have s2 := b2.size; have s3 := b3.size; have s4 := b4.size; have s5 := b5.size
    exact ⟨rfl, ((((b1.trans (b2.mono (by omega))).trans (b3.mono (by omega))).trans (b4.mono (by omega))).trans (b5.mono (by omega))).trans (b6.mono (by omega))⟩
  · clear hap c5
    cases v1 <;> cases v2
    case true.true => exact absurd ⟨rfl, rfl⟩ hboth
    all_goals
      clear hboth
      go_enter Tryd.func6, Tryd.ntmps6
      go_wp2_with fail
      refine (c1 _ hT).mono ?_
      rintro e w1 ⟨rfl, b1⟩
      have t1 := HasTabs_below hT b1
      go_wp2_with fail
      refine (c2 _ t1).mono ?_
      rintro e w2 ⟨rfl, b2⟩
      have t2 := HasTabs_below t1 b2
      go_wp2_with fail
      refine (law_alive _ t2).mono ?_
      rintro e w3 ⟨rfl, b3⟩
      go_wp2_with fail
      refine (c3 _).mono ?_
      rintro e w4 ⟨rfl, b4⟩
      go_wp2_with fail
      refine (c4 _).mono ?_
      rintro e w5 ⟨rfl, b5⟩
      go_wp2
      go_ret
      have s1 := b1.size; have s2 := b2.size; have s3 := b3.size; have s4 := b4.size
      exact ⟨rfl, (((b1.trans (b2.mono (by omega))).trans (b3.mono (by omega))).trans (b4.mono (by omega))).trans (b5.mono (by omega))⟩

set_option maxRecDepth 100000 in
set_option maxHeartbeats 4000000 in
theorem walk_TextCollapse (s : ByteArray) (w : World) (hT : HasTabs w) :
    Calls Tryd.prog 7 #[.string s] w fun e w' => e = .returned (.bool true) ∧ Below w.heap.size w w' := by
  by_cases h5 : (5000 : Int) < (s.size : Int)
  · go_enter Tryd.func7, Tryd.ntmps7
    go_wp2_with fail
    refine (law_alive _ hT).mono ?_
    rintro e w1 ⟨rfl, b1⟩
    go_wp2
    go_ret
    exact ⟨rfl, b1⟩
  have c1 : ∀ wx, _ := fun wx => text_Collapse s wx (by omega)
  have c2 : ∀ wx, _ := fun wx => ref_Collapse s wx (by omega)
  have hz : (ofBytes (collapse s.data.toList)).size ≤ 70368744177664 := by
    have h1 := collapse_length s.data.toList
    have h2 : s.data.toList.length = s.size := by simp
    rw [ofBytes_size]
    omega
  have c3 : ∀ wx, _ := fun wx => text_Collapse (ofBytes (collapse s.data.toList)) wx hz
  rw [ofBytes_list, collapse_again] at c3
  clear hz
  generalize ofBytes (collapse s.data.toList) = E at c1 c2 c3
  go_enter Tryd.func7, Tryd.ntmps7
  go_wp2_with fail
  refine (c1 _).mono ?_
  rintro e w1 ⟨rfl, b1⟩
  have t1 := HasTabs_below hT b1
  go_wp2_with fail
  refine (law_alive _ t1).mono ?_
  rintro e w2 ⟨rfl, b2⟩
  go_wp2_with fail
  refine (c2 _).mono ?_
  rintro e w3 ⟨rfl, b3⟩
  go_wp2_with fail
  refine (c3 _).mono ?_
  rintro e w4 ⟨rfl, b4⟩
  go_wp2
  go_ret
  have s1 := b1.size; have s2 := b2.size; have s3 := b3.size
  exact ⟨by simp, ((b1.trans (b2.mono (by omega))).trans (b3.mono (by omega))).trans (b4.mono (by omega))⟩

set_option maxRecDepth 100000 in
set_option maxHeartbeats 4000000 in
theorem walk_TextCheckConcat (s t : ByteArray) (w : World) (hs : s.size ≤ 140737488351232) (ht : t.size ≤ 140737488351232) (hT : HasTabs w) :
    Calls Tryd.prog 9 #[.string s, .string t] w fun e w' => e = .returned (.bool true) ∧ Below w.heap.size w w' := by
  by_cases h5 : (5000 : Int) < (s.size : Int) + (t.size : Int)
  · go_enter Tryd.func9, Tryd.ntmps9
    go_wp2_with fail
    refine (law_alive _ hT).mono ?_
    rintro e w1 ⟨rfl, b1⟩
    go_wp2
    go_ret
    exact ⟨rfl, b1⟩
  have c1 : ∀ wx, HasTabs wx → _ := fun wx => text_Check s wx (by unfold maxLen; omega)
  have c2 : ∀ wx, HasTabs wx → _ := fun wx => text_Check (s ++ t) wx (by rw [ByteArray.size_append]; unfold maxLen; omega)
  have c3 : ∀ wx, HasTabs wx → _ := fun wx => text_Check t wx (by unfold maxLen; omega)
  have hap := chk_append s t
  have hle := (chk_le t).1
  generalize chk (s ++ t) = d2 at c2 hap
  generalize chk s = d1 at c1 hap
  generalize chk t = d3 at c3 hap hle
  obtain ⟨a1, e1⟩ := d1
  obtain ⟨a3, e3⟩ := d3
  simp only at c1 c3 hap hle
  by_cases h0 : e1 = 0
  · subst h0
    obtain rfl := hap rfl
    have hlz : (a3 : Int) ≤ (t.size : Int) := by omega
    clear hap hle
    simp only [Int.natCast_add] at c2
    go_enter Tryd.func9, Tryd.ntmps9
    go_wp2_with fail
    refine (c1 _ hT).mono ?_
    rintro e w1 ⟨rfl, b1⟩
    have t1 := HasTabs_below hT b1
    go_wp2_with fail
    refine (c2 _ t1).mono ?_
    rintro e w2 ⟨rfl, b2⟩
    have t2 := HasTabs_below t1 b2
    go_wp2_with fail
    refine (c3 _ t2).mono ?_
    rintro e w3 ⟨rfl, b3⟩
    have t3 := HasTabs_below t2 b3
    go_wp2_with fail
    refine (law_alive _ t3).mono ?_
    rintro e w4 ⟨rfl, b4⟩
    go_wp2
    go_ret
    have s1 := b1.size; have s2 := b2.size; have s3 := b3.size
    exact ⟨by simp, ((b1.trans (b2.mono (by omega))).trans (b3.mono (by omega))).trans (b4.mono (by omega))⟩
  · have hez : ((e1 : Int) != 0) = true := by simp; omega
    clear hap c2 c3
    go_enter Tryd.func9, Tryd.ntmps9
    go_wp2_with fail
    refine (c1 _ hT).mono ?_
    rintro e w1 ⟨rfl, b1⟩
    have t1 := HasTabs_below hT b1
    go_wp2_with fail
    refine (law_alive _ t1).mono ?_
    rintro e w4 ⟨rfl, b4⟩
    go_wp2
    go_ret
    have s1 := b1.size
    exact ⟨rfl, b1.trans (b4.mono (by omega))⟩
end Go.Proofs.YtcppenmcnhkdhaaDoor
