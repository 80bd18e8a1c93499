/- The walk of the law of layer 6 on an escaped string. -/
import Derived.Test.YtpphpnkijokffaaDoorTokW
import Derived.Test.YtpphpnkijokffaaDoorTokFa
import Derived.Test.YtpphpnkijokffaaDoorChk
import Derived.Deep.QuietTactic
namespace Go.Proofs.YtpphpnkijokffaaDoor
open Go.RowKit

set_option maxRecDepth 100000 in
set_option maxHeartbeats 8000000 in
theorem walk_TokValues (s : ByteArray) (w : World) (hT : TokT w) (m : Int) (hM : w.cell? ⟨0, 0, none⟩ = some (.int .i64 m)) : Calls Tryd.prog 5 #[.string s] w fun e w' => e = .returned (.bool true) ∧ Below w.heap.size w w' := by
  have cA : ∀ wx, TokT wx → _ := fun wx ht => tok_alive wx ht
  by_cases hs : s.size ≤ 1000
  · have hsz : ¬ 1000 < (s.size : Int) := by omega
    by_cases h0 : s.size = 0
    · obtain rfl : s = ⟨#[]⟩ := by
        apply ByteArray.ext; apply Array.eq_empty_of_size_eq_zero; exact h0
      clear hsz hs h0
      go_enter Tryd.func5, Tryd.ntmps5
      go_wp2_with fail
      refine (cA _ hT).mono ?_
      rintro e w1 ⟨rfl, b1⟩
      go_wp2
      go_ret
      exact ⟨rfl, b1⟩
    · have hz0 : s.toList.isEmpty = false := by
        rw [ByteArray.toList_eq]
        have : s.data.toList.length = s.size := by simp
        cases hl : s.data.toList with
        | nil => rw [hl] at this; exact absurd this.symm h0
        | cons _ _ => rfl
      have hl0 : s.data.toList ≠ [] := by
        intro hl
        have : s.data.toList.length = s.size := by simp
        rw [hl] at this; exact h0 this.symm
      have c1 : ∀ wx, _ := fun wx => ref_Check s wx (by unfold maxLen; omega)
      by_cases hc : (chk s).2 = 0
      · have hok := okL_of s hc
        have kC : ∀ wx : World, wx.cell? ⟨0, 0, none⟩ = some (.int .i64 m) → _ := fun wx h => same_calls (Tryd.strings_Contains (s ++ ⟨#[93, 93]⟩) ⟨#[93, 93, 62]⟩ m wx (by rw [ByteArray.size_append]; show s.size + 2 < _; omega) h)
        rw [show (⟨#[93, 93, 62]⟩ : ByteArray).data.toList = cdShut from rfl] at kC
        generalize hX : Lib.contains (s ++ ⟨#[93, 93]⟩).data.toList cdShut = x at kC
        have HX := Lib.hid hX
        clear hX
        have hR := v_toks s.data.toList hl0 hok
        have l1 := escP_len true s.data.toList
        have l2 := escP_len false s.data.toList
        have hsl : s.data.toList.length = s.size := by simp
        rw [hc] at c1
        rw [show ((0 : Nat) : Int) = 0 from rfl] at c1
        generalize (chk s).1 = q at *
        have cE : ∀ wx, _ := fun wx => eref_Escape s true wx (by omega)
        have cF : ∀ wx, _ := fun wx => eref_Escape s false wx (by omega)
        have hD := doc_value (escP true s.data.toList) (escP false s.data.toList)
        have hDz : (ofBytes (vdoc (escP true s.data.toList) (escP false s.data.toList))).size ≤ 100000 := by rw [ofBytes_size, v_len]; omega
        have hEz : (ofBytes (escP true s.data.toList)).size ≤ 6000 := by rw [ofBytes_size]; omega
        have hFz : (ofBytes (escP false s.data.toList)).size ≤ 6000 := by rw [ofBytes_size]; omega
        have c2 : ∀ wx, TokT wx → _ := fun wx ht => (tok_Tokens _ wx hDz ht).mono fun _ _ h => h.at hR
        generalize ofBytes (vdoc (escP true s.data.toList) (escP false s.data.toList)) = D at *
        generalize ofBytes (escP true s.data.toList) = E at *
        generalize ofBytes (escP false s.data.toList) = F at *
        generalize ((12 + (escP true s.data.toList).length + (escP false s.data.toList).length : Nat) : Int) = z at *
        generalize ((8 + (escP true s.data.toList).length + (escP false s.data.toList).length : Nat) : Int) = z2 at *
        generalize ((8 + (escP true s.data.toList).length : Nat) : Int) = z3 at *
        have HD := Lib.hid hD
        clear hD hR l1 l2 hsl hs h0 hc
        go_enter Tryd.func5, Tryd.ntmps5
        go_wp2_with fail
        refine (c1 _).mono ?_
        rintro e w1 ⟨rfl, b1⟩
        have t1 := TokT_below hT b1
        go_wp2_with fail
        refine (cE _).mono ?_
        rintro e w2 ⟨rfl, b2⟩
        have t2 := TokT_below t1 b2
        go_wp2_with fail
        refine (cF _).mono ?_
        rintro e w3 ⟨rfl, b3⟩
        have t3 := TokT_below t2 b3
        go_wp2_with fail
        rw [HD.out]
        refine (c2 _ t3).mono ?_
        rintro e w4 ⟨p, c, rfl, hp, b4⟩
        have t4 := TokT_below t3 b4
        obtain ⟨a, q0, k0, rfl, ⟨a0, a1, a2, a3, a4, a5⟩, hat⟩ := hp 0 (by simp)
        obtain ⟨a', q1, k1, ha', ⟨d0, d1, d2, d3, d4, d5⟩, -⟩ := hp 1 (by simp)
        obtain rfl := Option.some.inj ha'
        obtain ⟨b, rfl, g0, g1, g2, g3⟩ := hat 0 (by simp)
        simp [Addr.add, tokT, attrOf, ofBytes_data] at a2 d4 g2
        clear hp hat a0 a1 a3 a4 a5 d0 d1 d2 d3 d5 g0 g1 g3 c1 cE cF c2 ha' t1 t2 t3
        have e4 : Below w.heap.size w w4 := ((b1.trans (b2.mono b1.size)).trans (b3.mono (by have := b1.size; have := b2.size; omega))).trans (b4.mono (by have := b1.size; have := b2.size; have := b3.size; omega))
        clear b1 b2 b3 b4
        go_wp2_with fail
        have hM4 : w4.cell? ⟨0, 0, none⟩ = some (.int .i64 m) := (e4.cell (p := ⟨0, 0, none⟩) (kblock_lt hM)).trans hM
        refine (kC _ hM4).mono ?_
        rintro e w5 ⟨rfl, rfl⟩
        clear a2 d4 g2
        rcases x with _ | _
        · have hX := HX.out
          rw [doc_shut] at hX
          have hidx := index_of_contains hX
          have hno := contains_of_index (index_pre _ _ hidx)
          have kC2 : ∀ wx : World, wx.cell? ⟨0, 0, none⟩ = some (.int .i64 m) → _ := fun wx h => same_calls (Tryd.strings_Contains s ⟨#[93, 93, 62]⟩ m wx (by omega) h)
          rw [show (⟨#[93, 93, 62]⟩ : ByteArray).data.toList = cdShut from rfl, hno] at kC2
          have hR := cdata_toks s.data.toList hl0 hok hidx
          have hD := doc_cdata s
          have hDz2 : (ofBytes (cdOpen ++ (s.data.toList ++ cdShut))).size ≤ 100000 := by
            rw [ofBytes_size]
            have : s.data.toList.length = s.size := by simp
            simp [cdOpen, cdShut]
            omega
          have c3 : ∀ wx, TokT wx → _ := fun wx ht => (tok_Tokens _ wx hDz2 ht).mono fun _ _ h => h.at hR
          have cL : ∀ wx, _ := fun wx => tref_Lines s wx (by omega)
          generalize ofBytes (cdOpen ++ (s.data.toList ++ cdShut)) = D2 at *
          generalize ((s.data.toList.length + 12 : Nat) : Int) = z5 at *
          have HD2 := Lib.hid hD
          clear hD hR hX HX hidx hno kC hDz HD hl0
          go_wp2_with fail
          rw [HD2.out]
          refine (c3 _ t4).mono ?_
          rintro e w6 ⟨p, k, rfl, hp, b6⟩
          have t6 := TokT_below t4 b6
          obtain ⟨a, q', c0', rfl, ⟨-, -, -, -, a4, -⟩, -⟩ := hp 0 (by simp)
          simp [Addr.add, tokT] at a4
          clear hp c3 HD2 hDz2
          have hM6 : w6.cell? ⟨0, 0, none⟩ = some (.int .i64 m) := (b6.cell (p := ⟨0, 0, none⟩) (kblock_lt hM4)).trans hM4
          have e6 : Below w.heap.size w w6 := e4.trans (b6.mono e4.size)
          clear e4 b6 t4 hM4
          generalize ofBytes (linesP s.data.toList) = LN at *
          have t6d : TokT w6.drew := TokT_below t6 (Below.refl _ _).drew
          go_wp2
          have la0 := kblock_lt a4
          have lm0 := kblock_lt hM6
          have kS : ∀ w5, Below w6.drew.heap.size w6.drew w5 → w5.cell? ⟨a.block, a.off + 4, none⟩ = some (.string LN) ∧ w5.cell? ⟨0, 0, none⟩ = some (.int .i64 m) := fun w5 b5 => ⟨(b5.cell (p := ⟨a.block, a.off + 4, none⟩) la0).trans a4, (b5.cell (p := ⟨0, 0, none⟩) lm0).trans hM6⟩
          have kR : ∀ w5 w7 : World, (w5.cell? ⟨a.block, a.off + 4, none⟩ = some (.string LN) ∧ w5.cell? ⟨0, 0, none⟩ = some (.int .i64 m)) → Below w5.heap.size w5 w7 → w7.cell? ⟨a.block, a.off + 4, none⟩ = some (.string LN) ∧ w7.cell? ⟨0, 0, none⟩ = some (.int .i64 m) := fun w5 w7 h b7 => ⟨(b7.cell (kblock_lt h.1)).trans h.1, (b7.cell (kblock_lt h.2)).trans h.2⟩
          go_region_held3 (fun w' => w'.cell? ⟨a.block, a.off + 4, none⟩ = some (.string LN) ∧ w'.cell? ⟨0, 0, none⟩ = some (.int .i64 m)) (first | exact ⟨a4, hM6⟩ | exact hS5 | exact hS7) (first | (go_at_call 6; refine (cA _ t6d).mono ?_; rintro e w5 ⟨rfl, b5⟩; have hS5 := kS w5 b5) | (go_at_call 13; refine (kC2 _ hS5.2).mono ?_; rintro e w8 ⟨rfl, rfl⟩) | (go_at_call 11; refine (cL _).mono ?_; rintro e w7 ⟨rfl, b7⟩; have hS7 := kR _ _ hS5 b7))
          go_wp2
          go_ret
          have s6 := e6.size; have s5 := b5.size
          have e7 : Below w.heap.size w w5 := (e6.drew).trans (b5.mono s6)
          exact ⟨rfl, e7.trans (b7.mono e7.size)⟩
        · go_wp2_with fail
          refine (cA _ t4).mono ?_
          rintro e w5 ⟨rfl, b5⟩
          go_wp2
          go_ret
          exact ⟨rfl, e4.trans (b5.mono e4.size)⟩
      · have hcb : (((chk s).2 : Int) != 0) = true := by simpa using hc
        generalize (chk s).1 = q at *
        generalize (chk s).2 = q2 at *
        clear hc hs h0 hl0
        go_enter Tryd.func5, Tryd.ntmps5
        go_wp2_with fail
        refine (c1 _).mono ?_
        rintro e w1 ⟨rfl, b1⟩
        go_wp2_with fail
        refine (cA _ (TokT_below hT b1)).mono ?_
        rintro e w2 ⟨rfl, b2⟩
        go_wp2
        go_ret
        exact ⟨rfl, b1.trans (b2.mono b1.size)⟩
  · have hsz : 1000 < (s.size : Int) := by omega
    go_enter Tryd.func5, Tryd.ntmps5
    go_wp2_with fail
    refine (cA _ hT).mono ?_
    rintro e w1 ⟨rfl, b1⟩
    go_wp2
    go_ret
    exact ⟨rfl, b1⟩
end Go.Proofs.YtpphpnkijokffaaDoor
