/- The walks of four laws of layer 5: Text and Attr, Reference, Unescape give what the reference gives; escaping is compatible with concatenation. -/
import Derived.Test.YtofoloidllkfaaaDoorEscL
namespace Go.Proofs.YtofoloidllkfaaaDoor
open Go.RowKit

set_option maxRecDepth 100000 in
set_option maxHeartbeats 4000000 in
theorem walk_EscMatches (s : ByteArray) (w : World) (hT : EscT w) :
    Calls Tryd.prog 3 #[.string s] w fun e w' => e = .returned (.bool true) ∧ Below w.heap.size w w' := by
  by_cases h5 : (5000 : Int) < (s.size : Int)
  · go_enter Tryd.func3, Tryd.ntmps3
    (go_wp2_with fail); (refine (esc_alive _ hT).mono ?_); (rintro e w1 ⟨rfl, b1⟩)
    go_wp2
    go_ret
    exact ⟨rfl, b1⟩
  · have c1 : ∀ wx, EscT wx → _ := fun wx => esc_Text s wx (by omega)
    have c2 : ∀ wx, _ := fun wx => eref_Escape s false wx (by omega)
    have c3 : ∀ wx, EscT wx → _ := fun wx => esc_Attr s wx (by omega)
    have c4 : ∀ wx, _ := fun wx => eref_Escape s true wx (by omega)
    generalize ofBytes (escP false s.data.toList) = f at *
    generalize ofBytes (escP true s.data.toList) = g at *
    go_enter Tryd.func3, Tryd.ntmps3
    (go_wp2_with fail); (refine (esc_alive _ hT).mono ?_); (rintro e w1 ⟨rfl, b1⟩)
    have t1 := EscT_below hT b1
    (go_wp2_with fail); (refine (c1 _ t1).mono ?_); (rintro e w2 ⟨rfl, b2⟩)
    have t2 := EscT_below t1 b2
    go_wp2_with fail
    refine (c2 _).mono ?_
    rintro e w3 ⟨rfl, b3⟩
    have t3 := EscT_below t2 b3
    (go_wp2_with fail); (refine (c3 _ t3).mono ?_); (rintro e w4 ⟨rfl, b4⟩)
    have t4 := EscT_below t3 b4
    go_wp2_with fail
    refine (c4 _).mono ?_
    rintro e w5 ⟨rfl, b5⟩
    go_wp2
    go_ret
    have s1 := b1.size; have s2 := b2.size; have s3 := b3.size; have s4 := b4.size
    exact ⟨by simp, (((b1.trans (b2.mono (by omega))).trans (b3.mono (by omega))).trans (b4.mono (by omega))).trans (b5.mono (by omega))⟩

set_option maxRecDepth 100000 in
set_option maxHeartbeats 4000000 in
theorem walk_EscReferences (s : ByteArray) (a : Int) (w : World) (hT : EscT w) :
    Calls Tryd.prog 4 #[.string s, .int .i64 a] w fun e w' => e = .returned (.bool true) ∧ Below w.heap.size w w' := by
  by_cases h5 : (5000 : Int) < (s.size : Int)
  · go_enter Tryd.func4, Tryd.ntmps4
    (go_wp2_with fail); (refine (esc_alive _ hT).mono ?_); (rintro e w1 ⟨rfl, b1⟩)
    go_wp2
    go_ret
    exact ⟨rfl, b1⟩
  · have c1 : ∀ wx, EscT wx → _ := fun wx => esc_Reference s a wx (by omega)
    have c2 : ∀ wx, _ := fun wx => eref_Reference s a wx (by omega)
    have hb : -1 ≤ (refP s.data.toList a).1 ∧ (refP s.data.toList a).1 ≤ 2000000 := by
      unfold refP
      split
      · rcases refAt_cases s.data.toList a.toNat with h | ⟨r, j, h, _, _, _, h4, h5⟩
        · rw [h]; exact ⟨by decide, by decide⟩
        · rw [h]; exact ⟨h4, h5⟩
      · exact ⟨by decide, by decide⟩
    generalize refP s.data.toList a = v at *
    obtain ⟨v1, v2, v3⟩ := v
    simp only at c1 c2 hb
    obtain ⟨hb1, hb2⟩ := hb
    go_enter Tryd.func4, Tryd.ntmps4
    (go_wp2_with fail); (refine (c1 _ hT).mono ?_); (rintro e w1 ⟨rfl, b1⟩)
    have t1 := EscT_below hT b1
    (go_wp2_with fail); (refine (c2 _).mono ?_); (rintro e w' ⟨rfl, rfl⟩)
    (go_wp2_with fail); (refine (esc_alive _ t1).mono ?_); (rintro e w2 ⟨rfl, b2⟩)
    go_wp2
    go_ret
    have s1 := b1.size
    exact ⟨by simp, b1.trans (b2.mono (by omega))⟩

set_option maxRecDepth 100000 in
set_option maxHeartbeats 4000000 in
theorem walk_EscUnescapes (s : ByteArray) (w : World) (hT : EscT w) :
    Calls Tryd.prog 5 #[.string s] w fun e w' => e = .returned (.bool true) ∧ Below w.heap.size w w' := by
  by_cases h5 : (5000 : Int) < (s.size : Int)
  · go_enter Tryd.func5, Tryd.ntmps5
    (go_wp2_with fail); (refine (esc_alive _ hT).mono ?_); (rintro e w1 ⟨rfl, b1⟩)
    go_wp2
    go_ret
    exact ⟨rfl, b1⟩
  · have c1 : ∀ wx, EscT wx → _ := fun wx => esc_Unescape s wx (by omega)
    have c2 : ∀ wx, _ := fun wx => eref_Unescape s wx (by omega)
    generalize unP s.data.toList = v at *
    obtain ⟨v1, v2, v3⟩ := v
    simp only at c1 c2
    generalize ofBytes v1 = q at *
    go_enter Tryd.func5, Tryd.ntmps5
    (go_wp2_with fail); (refine (c1 _ hT).mono ?_); (rintro e w1 ⟨rfl, b1⟩)
    have t1 := EscT_below hT b1
    go_wp2_with fail
    refine (c2 _).mono ?_
    rintro e w2 ⟨rfl, b2⟩
    have t2 := EscT_below t1 b2
    (go_wp2_with fail); (refine (esc_alive _ t2).mono ?_); (rintro e w3 ⟨rfl, b3⟩)
    go_wp2
    go_ret
    have s1 := b1.size; have s2 := b2.size
    exact ⟨by simp, (b1.trans (b2.mono (by omega))).trans (b3.mono (by omega))⟩

set_option maxRecDepth 100000 in
set_option maxHeartbeats 4000000 in
theorem walk_EscConcat (s t : ByteArray) (w : World) (hs : s.size ≤ 140737488351232) (ht : t.size ≤ 140737488351232) (hT : EscT w) :
    Calls Tryd.prog 7 #[.string s, .string t] w fun e w' => e = .returned (.bool true) ∧ Below w.heap.size w w' := by
  by_cases h5 : (5000 : Int) < (s.size : Int) + (t.size : Int)
  · go_enter Tryd.func7, Tryd.ntmps7
    (go_wp2_with fail); (refine (esc_alive _ hT).mono ?_); (rintro e w1 ⟨rfl, b1⟩)
    go_wp2
    go_ret
    exact ⟨rfl, b1⟩
  · have hst : (s ++ t).size ≤ 5000 := by rw [ByteArray.size_append]; omega
    have hs5 : s.size ≤ 5000 := by omega
    have ht5 : t.size ≤ 5000 := by omega
    have l1 := escP_len false s.data.toList
    have l2 := escP_len false t.data.toList
    have l3 := escP_len true s.data.toList
    have l4 := escP_len true t.data.toList
    rw [show s.data.toList.length = s.size by simp] at l1 l3
    rw [show t.data.toList.length = t.size by simp] at l2 l4
    have hd : (s ++ t).data.toList = s.data.toList ++ t.data.toList := by simp
    have e1 : ofBytes (escP false (s ++ t).data.toList) = ofBytes (escP false s.data.toList) ++ ofBytes (escP false t.data.toList) := by rw [hd, escP_app, eob_app]
    have e2 : ofBytes (escP true (s ++ t).data.toList) = ofBytes (escP true s.data.toList) ++ ofBytes (escP true t.data.toList) := by rw [hd, escP_app, eob_app]
    obtain ⟨S, hS⟩ : ∃ S, S = s ++ t := ⟨_, rfl⟩
    rw [← hS] at hst e1 e2
    have c1 : ∀ wx, EscT wx → _ := fun wx => esc_Text S wx (by omega)
    have c2 : ∀ wx, EscT wx → _ := fun wx => esc_Text s wx (by omega)
    have c3 : ∀ wx, EscT wx → _ := fun wx => esc_Text t wx (by omega)
    have c4 : ∀ wx, EscT wx → _ := fun wx => esc_Attr S wx (by omega)
    have c5 : ∀ wx, EscT wx → _ := fun wx => esc_Attr s wx (by omega)
    have c6 : ∀ wx, EscT wx → _ := fun wx => esc_Attr t wx (by omega)
    rw [e1] at c1
    rw [e2] at c4
    have z1 : (ofBytes (escP false s.data.toList)).size ≤ 30000 := by rw [ofBytes_size]; omega
    have z2 : (ofBytes (escP false t.data.toList)).size ≤ 30000 := by rw [ofBytes_size]; omega
    have z3 : (ofBytes (escP true s.data.toList)).size ≤ 30000 := by rw [ofBytes_size]; omega
    have z4 : (ofBytes (escP true t.data.toList)).size ≤ 30000 := by rw [ofBytes_size]; omega
    generalize ofBytes (escP false s.data.toList) = x1 at *
    generalize ofBytes (escP false t.data.toList) = x2 at *
    generalize ofBytes (escP true s.data.toList) = x3 at *
    generalize ofBytes (escP true t.data.toList) = x4 at *
    have HS := Lib.hid hS
    clear l1 l2 l3 l4 hd e1 e2 hst hS hs ht
    go_enter Tryd.func7, Tryd.ntmps7
    (go_wp2_with fail); (refine (esc_alive _ hT).mono ?_); (rintro e w1 ⟨rfl, b1⟩)
    have t1 := EscT_below hT b1
    go_wp2_with fail
    rw [← HS.out]
    refine (c1 _ t1).mono ?_
    rintro e w2 ⟨rfl, b2⟩
    have t2 := EscT_below t1 b2
    (go_wp2_with fail); (refine (c2 _ t2).mono ?_); (rintro e w3 ⟨rfl, b3⟩)
    have t3 := EscT_below t2 b3
    (go_wp2_with fail); (refine (c3 _ t3).mono ?_); (rintro e w4 ⟨rfl, b4⟩)
    have t4 := EscT_below t3 b4
    go_wp2_with fail
    rw [← HS.out]
    refine (c4 _ t4).mono ?_
    rintro e w5 ⟨rfl, b5⟩
    have t5 := EscT_below t4 b5
    (go_wp2_with fail); (refine (c5 _ t5).mono ?_); (rintro e w6 ⟨rfl, b6⟩)
    have t6 := EscT_below t5 b6
    (go_wp2_with fail); (refine (c6 _ t6).mono ?_); (rintro e w7 ⟨rfl, b7⟩)
    go_wp2
    go_ret
    have s1 := b1.size; have s2 := b2.size; have s3 := b3.size; have s4 := b4.size; have s5 := b5.size; have s6 := b6.size
    exact ⟨by simp, (((((b1.trans (b2.mono (by omega))).trans (b3.mono (by omega))).trans (b4.mono (by omega))).trans (b5.mono (by omega))).trans (b6.mono (by omega))).trans (b7.mono (by omega))⟩
end Go.Proofs.YtofoloidllkfaaaDoor
