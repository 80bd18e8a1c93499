/- The laws of layer 10: the walk of Prefixes. -/
import Derived.Test.YtdkinamblobjpaaDoorJsL
namespace Go.Proofs.YtdkinamblobjpaaDoor
open Go.RowKit

set_option maxRecDepth 100000 in
set_option maxHeartbeats 32000000 in
theorem walk_JsPrefixes (s : ByteArray) (k : Int) (w : World) (hT : TabJ w) (hk0 : 0 ≤ k) (hk1 : k ≤ 65535) :
    Calls Tryd.prog 8 #[.string s, .int .u16 k] w fun e w' => e = .returned (.bool true) ∧ Below w.heap.size w w' := by
  by_cases h5 : (1000 : Int) < (s.size : Int)
  · go_enter Tryd.func8, Tryd.ntmps8
    (go_wp2_with fail); (refine (js_alive _ hT).mono ?_); (rintro e w1 ⟨rfl, b1⟩)
    go_wp2
    go_ret
    exact ⟨rfl, b1⟩
  · have cV : ∀ wx, _ := fun wx => jref_Valid s wx (by omega)
    rcases hv : vaL s.data.toList with _ | _
    · rw [hv] at cV
      clear hv
      go_enter Tryd.func8, Tryd.ntmps8
      go_wp2_with fail
      refine (cV _).mono ?_
      rintro e w1 ⟨rfl, b1⟩
      have t1 := TabJ_below hT b1
      (go_wp2_with fail); (refine (js_alive _ t1).mono ?_); (rintro e w2 ⟨rfl, b2⟩)
      have z1 := b1.size
      go_wp2
      go_ret
      exact ⟨rfl, b1.trans (b2.mono z1)⟩
    · rw [hv] at cV
      have c1 : ∀ wx, TabJ wx → _ := fun wx => js_Quote s wx (by omega)
      unfold quoteP at c1
      rw [hv, if_pos rfl] at c1
      simp only at c1
      have hql := quoteJ_len s.data.toList
      have hil := itemsJ_len s.data.toList
      rw [show s.data.toList.length = s.size by simp] at hil
      have hEz : (ofBytes (quoteJ s.data.toList)).size = (quoteJ s.data.toList).length := ofBytes_size _
      obtain ⟨m, hm⟩ : ∃ m : Int, k.tmod (((ofBytes (quoteJ s.data.toList)).size : Int) - 1) = m := ⟨_, rfl⟩
      have hmb : 0 ≤ m ∧ m < ((ofBytes (quoteJ s.data.toList)).size : Int) - 1 := by
        rw [← hm, Int.tmod_eq_emod_of_nonneg hk0]
        exact ⟨Int.emod_nonneg _ (by omega), Int.emod_lt_of_pos _ (by omega)⟩
      obtain ⟨hm0, hm1⟩ := hmb
      have hP := parP_prefix s.data.toList hv (1 + m).toNat (by omega) (by omega)
      have hsl : ∀ wx, _ := fun wx => slice_to (ofBytes (quoteJ s.data.toList)) (1 + m) (by omega) (by omega) wx
      rw [eext, ofBytes_list, List.drop_zero, Nat.sub_zero] at hsl
      have hFz : (ofBytes ((quoteJ s.data.toList).take (1 + m).toNat)).size ≤ 1000000 := by rw [ofBytes_size, List.length_take]; omega
      have c2 : ∀ wx, TabJ wx → _ := fun wx => js_Parse (ofBytes ((quoteJ s.data.toList).take (1 + m).toNat)) 0 wx hFz
      have c3 : ∀ wx, _ := fun wx => jref_Parse (ofBytes ((quoteJ s.data.toList).take (1 + m).toNat)) 0 wx hFz
      rw [ofBytes_list] at c2 c3
      have g1 : ¬ ((ofBytes (quoteJ s.data.toList)).size : Int) < 2 := by omega
      have g2 : ((ofBytes (quoteJ s.data.toList)).size : Int) - 1 ≠ 0 := by omega
      have g3 : ((ofBytes (quoteJ s.data.toList)).size : Int) ≤ 6002 := by omega
      generalize parP ((quoteJ s.data.toList).take (1 + m).toNat) 0 = p at *
      obtain ⟨p1, p2, p3⟩ := p
      obtain ⟨hp1, hp2⟩ := hP
      simp only at c2 c3 hp1 hp2
      subst hp1
      clear hql hil hEz hFz hv
      generalize ofBytes ((quoteJ s.data.toList).take (1 + m).toNat) = F at *
      generalize ofBytes (quoteJ s.data.toList) = E at *
      have hkk : k ≤ 65535 := hk1
      have hor : (p3 = 8 ∧ p2 = 0) ∨ (p3 = 16 ∧ 0 < p2) ∨ (p3 = 5 ∧ 0 < p2) := by omega
      clear hp2
      have hof : ofBytes [] = (⟨#[]⟩ : ByteArray) := rfl
      rw [hof] at c2 c3
      rcases hor with ⟨rfl, rfl⟩ | ⟨rfl, hp⟩ | ⟨rfl, hp⟩
      all_goals
        go_enter Tryd.func8, Tryd.ntmps8
        go_wp2_with fail
        refine (cV _).mono ?_
        rintro e w1 ⟨rfl, b1⟩
        have t1 := TabJ_below hT b1
        (go_wp2_with fail); (refine (c1 _ t1).mono ?_); (rintro e w2 ⟨rfl, b2⟩)
        have t2 := TabJ_below t1 b2
        (go_wp2_with fail); (refine (c2 _ t2).mono ?_); (rintro e w3 ⟨rfl, b3⟩)
        have t3 := TabJ_below t2 b3
        go_wp2_with fail
        refine (c3 _).mono ?_
        rintro e w4 ⟨rfl, b4⟩
        have t4 := TabJ_below t3 b4
        (go_wp2_with fail); (refine (js_alive _ t4).mono ?_); (rintro e w5 ⟨rfl, b5⟩)
        have z1 := b1.size
        have z2 := b2.size
        have z3 := b3.size
        have z4 := b4.size
        go_wp2
        go_ret
        exact ⟨by simp <;> omega, (((b1.trans (b2.mono z1)).trans (b3.mono (by omega))).trans (b4.mono (by omega))).trans (b5.mono (by omega))⟩
end Go.Proofs.YtdkinamblobjpaaDoor
