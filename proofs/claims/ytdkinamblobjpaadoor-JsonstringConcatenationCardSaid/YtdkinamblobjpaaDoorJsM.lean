/- The laws of layer 10: walks of Concatenation, Prefixes. -/
import Derived.Test.YtdkinamblobjpaaDoorJsL
import Derived.Deep.RegionHeld3
namespace Go.Proofs.YtdkinamblobjpaaDoor
open Go.RowKit

/-! ### Concatenation -/
set_option maxRecDepth 100000 in
set_option maxHeartbeats 32000000 in
theorem walk_JsCat (s t : ByteArray) (w : World) (hT : TabJ w) (r0 : s.size ≤ 140737488351232) (r1 : t.size ≤ 140737488351232) :
    Calls Tryd.prog 6 #[.string s, .string t] w fun e w' => e = .returned (.bool true) ∧ Below w.heap.size w w' := by
  by_cases h5 : (5000 : Int) < (s.size : Int) + (t.size : Int)
  · go_enter Tryd.func6, Tryd.ntmps6
    (go_wp2_with fail); (refine (js_alive _ hT).mono ?_); (rintro e w1 ⟨rfl, b1⟩)
    go_wp2
    go_ret
    exact ⟨rfl, b1⟩
  · have cV : ∀ wx, _ := fun wx => jref_Valid s wx (by omega)
    have cW : ∀ wx, _ := fun wx => jref_Valid t wx (by omega)
    rcases hv : vaL s.data.toList with _ | _
    · rw [hv] at cV
      clear hv cW
      go_enter Tryd.func6, Tryd.ntmps6
      go_wp2_with fail
      refine (cV _).mono ?_
      rintro e w1 ⟨rfl, b1⟩
      have t1 := TabJ_below hT b1
      (go_wp2_with fail); (refine (js_alive _ t1).mono ?_); (rintro e w2 ⟨rfl, b2⟩)
      have z1 := b1.size
      go_wp2
      go_ret
      exact ⟨rfl, b1.trans (b2.mono z1)⟩
    · rw [hv] at cV
      rcases hw : vaL t.data.toList with _ | _
      · rw [hw] at cW
        clear hv hw
        go_enter Tryd.func6, Tryd.ntmps6
        go_wp2_with fail
        refine (cV _).mono ?_
        rintro e w1 ⟨rfl, b1⟩
        have t1 := TabJ_below hT b1
        go_wp2_with fail
        refine (cW _).mono ?_
        rintro e w2 ⟨rfl, b2⟩
        have t2 := TabJ_below t1 b2
        (go_wp2_with fail); (refine (js_alive _ t2).mono ?_); (rintro e w3 ⟨rfl, b3⟩)
        have z1 := b1.size
        have z2 := b2.size
        go_wp2
        go_ret
        exact ⟨rfl, (b1.trans (b2.mono z1)).trans (b3.mono (by omega))⟩
      · rw [hw] at cW
        have c1 : ∀ wx, TabJ wx → _ := fun wx => js_Quote s wx (by omega)
        have c2 : ∀ wx, TabJ wx → _ := fun wx => js_Quote t wx (by omega)
        obtain ⟨S, hS⟩ : ∃ S, S = s ++ t := ⟨_, rfl⟩
        have hSd : S.data.toList = s.data.toList ++ t.data.toList := by rw [hS]; simp [ByteArray.data_append]
        have hSz : S.size = s.size + t.size := by rw [hS, ByteArray.size_append]
        have c3 : ∀ wx, TabJ wx → _ := fun wx => js_Quote S wx (by omega)
        unfold quoteP at c1 c2 c3
        rw [hv, if_pos rfl] at c1
        rw [hw, if_pos rfl] at c2
        rw [hSd, vaL_app _ _ hv, hw, if_pos rfl] at c3
        simp only at c1 c2 c3
        have z1' : (ofBytes (quoteJ s.data.toList)).size = (itemsJ s.data.toList).length + 2 := by rw [ofBytes_size, quoteJ_len]
        have z2' : (ofBytes (quoteJ t.data.toList)).size = (itemsJ t.data.toList).length + 2 := by rw [ofBytes_size, quoteJ_len]
        have i1 := itemsJ_len s.data.toList
        have i2 := itemsJ_len t.data.toList
        rw [show s.data.toList.length = s.size by simp] at i1
        rw [show t.data.toList.length = t.size by simp] at i2
        have hx1 : (ofBytes (quoteJ s.data.toList)).extract 0 ((ofBytes (quoteJ s.data.toList)).size - 1) = ofBytes (34 :: itemsJ s.data.toList) := by
          rw [eext, ofBytes_list, List.drop_zero, show (ofBytes (quoteJ s.data.toList)).size - 1 - 0 = (itemsJ s.data.toList).length + 1 by omega]
          unfold quoteJ
          rw [List.take_succ_cons, List.take_left]
        have hx2 : (ofBytes (quoteJ t.data.toList)).extract 1 (ofBytes (quoteJ t.data.toList)).size = ofBytes (itemsJ t.data.toList ++ [34]) := by
          rw [eext, ofBytes_list, show (quoteJ t.data.toList).drop 1 = itemsJ t.data.toList ++ [34] from rfl, List.take_of_length_le (by rw [List.length_append, List.length_singleton]; omega)]
        have hcat : ofBytes (34 :: itemsJ s.data.toList) ++ ofBytes (itemsJ t.data.toList ++ [34]) = ofBytes (quoteJ (s.data.toList ++ t.data.toList)) := by
          rw [← jb_app]
          unfold quoteJ
          rw [itemsJ_app]
          simp
        have hg1 : (1 : Int) < ((ofBytes (quoteJ s.data.toList)).size : Int) := by omega
        have hg2 : (1 : Int) < ((ofBytes (quoteJ t.data.toList)).size : Int) := by omega
        have hl1 : (ofBytes (quoteJ s.data.toList)).size ≤ 30002 := by omega
        have hA1 : (1 : Int) ≤ ((ofBytes (quoteJ s.data.toList)).size : Int) := by omega
        have hA2 : IntKind.i64.wrap (((ofBytes (quoteJ s.data.toList)).size : Int) - 1) = ((ofBytes (quoteJ s.data.toList)).size : Int) - 1 := by rw [IntKind.wrap_i64]; omega
        have hA3 : (0 : Int) ≤ ((ofBytes (quoteJ s.data.toList)).size : Int) - 1 := by omega
        have hA4 : ((ofBytes (quoteJ s.data.toList)).size : Int) - 1 ≤ ((ofBytes (quoteJ s.data.toList)).size : Int) := by omega
        have hA5 : (((ofBytes (quoteJ s.data.toList)).size : Int) - 1).toNat ≤ (ofBytes (quoteJ s.data.toList)).size := by omega
        have hA6 : 1 ≤ (ofBytes (quoteJ s.data.toList)).size := by omega
        have hA7 : 0 < (ofBytes (quoteJ s.data.toList)).size := by omega
        have hA8 : ¬ ((ofBytes (quoteJ s.data.toList)).size : Int) - 1 < 0 := by omega
        have hB1 : (1 : Int) ≤ ((ofBytes (quoteJ t.data.toList)).size : Int) := by omega
        have x1 : (ofBytes (34 :: itemsJ s.data.toList)).size ≤ 30002 := by rw [ofBytes_size, List.length_cons]; omega
        have x2 : (ofBytes (itemsJ t.data.toList ++ [34])).size ≤ 30002 := by rw [ofBytes_size, List.length_append, List.length_singleton]; omega
        have y1 : ¬ 9223372036854775807 < (ofBytes (34 :: itemsJ s.data.toList)).size + (ofBytes (itemsJ t.data.toList ++ [34])).size := by omega
        have y2 : ¬ 9223372036854775807 < (ofBytes (quoteJ s.data.toList)).size - 1 + (ofBytes (itemsJ t.data.toList ++ [34])).size := by omega
        clear i1 i2 z1' z2' hSd hSz hv hw
        generalize ofBytes (34 :: itemsJ s.data.toList) = A1 at *
        generalize ofBytes (itemsJ t.data.toList ++ [34]) = B1 at *
        generalize ofBytes (quoteJ (s.data.toList ++ t.data.toList)) = C at *
        generalize ofBytes (quoteJ s.data.toList) = A at *
        generalize ofBytes (quoteJ t.data.toList) = B at *
        have HS := Lib.hid hS
        have HC := Lib.hid hcat
        clear hS
        have hsz : s.size ≤ 5000 := by omega
        have htz : t.size ≤ 5000 := by omega
        go_enter Tryd.func6, Tryd.ntmps6
        go_wp2_with fail
        refine (cV _).mono ?_
        rintro e w1 ⟨rfl, b1⟩
        have t1 := TabJ_below hT b1
        go_wp2_with fail
        refine (cW _).mono ?_
        rintro e w2 ⟨rfl, b2⟩
        have t2 := TabJ_below t1 b2
        (go_wp2_with fail); (refine (c1 _ t2).mono ?_); (rintro e w3 ⟨rfl, b3⟩)
        have t3 := TabJ_below t2 b3
        (go_wp2_with fail); (refine (c2 _ t3).mono ?_); (rintro e w4 ⟨rfl, b4⟩)
        have t4 := TabJ_below t3 b4
        go_wp2_with fail
        rw [← HS.out]
        refine (c3 _ t4).mono ?_
        rintro e w5 ⟨rfl, b5⟩
        have t5 := TabJ_below t4 b5
        have z1 := b1.size
        have z2 := b2.size
        have z3 := b3.size
        have z4 := b4.size
        have z5 := b5.size
        have hb5 := (((b1.trans (b2.mono z1)).trans (b3.mono (by omega))).trans (b4.mono (by omega))).trans (b5.mono (by omega))
        have hBel := Lib.hid hb5
        have t5d : TabJ w5.drew := t5
        clear hb5 b1 b2 b3 b4 b5 t1 t2 t3 t4 cV cW c1 c2 c3
        have cA : ∀ wx, TabJ wx → _ := fun wx ht => js_alive wx ht
        have hzz : w.heap.size ≤ w5.heap.size := by omega
        clear z1 z2 z3 z4 z5
        go_wp2
        go_region_held3 (fun _ => True) (trivial) ((go_at_call 9; refine (cA _ t5d).mono ?_; rintro e w6 ⟨rfl, b6⟩))
        all_goals
          go_wp2
          go_ret
          exact ⟨by simp, hBel.out.drew.trans (b6.mono hzz)⟩
end Go.Proofs.YtdkinamblobjpaaDoor
