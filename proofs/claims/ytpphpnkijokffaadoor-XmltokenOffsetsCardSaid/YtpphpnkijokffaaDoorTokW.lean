/- The walk of the law of layer 6 on a document without markup and references. -/
import Derived.Test.YtpphpnkijokffaaDoorTokV
import Derived.Test.YtpphpnkijokffaaDoorTokS
import Derived.Test.YtpphpnkijokffaaDoorShelf
import Derived.Lib.IndexLaws
import Derived.Deep.RegionHeld3
namespace Go.Proofs.YtpphpnkijokffaaDoor
open Go.RowKit

theorem not_in {l : List UInt8} {c : UInt8} (h : Lib.indexByte l c = -1) : ∀ x ∈ l, x ≠ c := by
  intro x hx he
  obtain ⟨k, hk⟩ := List.mem_iff_getElem?.1 hx
  exact Lib.indexByte_none h k (by rw [hk, he])
theorem same_calls {P : Program} {f : FuncId} {args : Array Value} {w : World} {x : Ending} (h : Calls P f args w fun e w' => e = x ∧ w' = w) : Calls P f args w fun e w' => e = x ∧ w = w' := h.mono fun _ _ h => ⟨h.1, h.2.symm⟩
set_option maxRecDepth 100000 in
set_option maxHeartbeats 8000000 in
theorem walk_TokText (s : ByteArray) (w : World) (hT : TokT w) : Calls Tryd.prog 4 #[.string s] w fun e w' => e = .returned (.bool true) ∧ Below w.heap.size w w' := by
  have cA : ∀ wx, TokT wx → _ := fun wx ht => tok_alive wx ht
  by_cases hs : s.size ≤ 3000
  · have hsz : (s.size : Int) ≤ 3000 := by omega
    have k1 := fun wx => same_calls (Tryd.strings_IndexByte s 60 wx)
    have k2 := fun wx => same_calls (Tryd.strings_IndexByte s 38 wx)
    have k3 := fun wx => same_calls (Tryd.strings_HasPrefix s ⟨#[239, 187, 191]⟩ wx)
    rw [show (60 : Int).toNat.toUInt8 = 60 from rfl] at k1
    rw [show (38 : Int).toNat.toUInt8 = 38 from rfl] at k2
    rw [show (⟨#[239, 187, 191]⟩ : ByteArray).data.toList = [239, 187, 191] from rfl] at k3
    have g1 := Lib.indexByte_ge s.data.toList 60
    have g2 := Lib.indexByte_ge s.data.toList 38
    by_cases h1 : 0 ≤ Lib.indexByte s.data.toList 60
    · generalize Lib.indexByte s.data.toList 60 = x1 at *
      go_enter Tryd.func4, Tryd.ntmps4
      (go_wp2_with fail); (refine (k1 _).mono ?_); (rintro e w' ⟨rfl, rfl⟩)
      go_wp2_with fail
      refine (cA _ hT).mono ?_
      rintro e w1 ⟨rfl, b1⟩
      go_wp2
      go_ret
      exact ⟨rfl, b1⟩
    have e1 : Lib.indexByte s.data.toList 60 = -1 := by omega
    by_cases h2 : 0 ≤ Lib.indexByte s.data.toList 38
    · generalize Lib.indexByte s.data.toList 38 = x2 at *
      rw [e1] at k1
      clear e1 h1 g1
      go_enter Tryd.func4, Tryd.ntmps4
      (go_wp2_with fail); (refine (k1 _).mono ?_); (rintro e w' ⟨rfl, rfl⟩)
      (go_wp2_with fail); (refine (k2 _).mono ?_); (rintro e w' ⟨rfl, rfl⟩)
      go_wp2_with fail
      refine (cA _ hT).mono ?_
      rintro e w1 ⟨rfl, b1⟩
      go_wp2
      go_ret
      exact ⟨rfl, b1⟩
    have e2 : Lib.indexByte s.data.toList 38 = -1 := by omega
    have h60 := not_in e1
    have h38 := not_in e2
    rw [e1] at k1
    rw [e2] at k2
    clear h1 h2 g1 g2 e1 e2
    rcases h3 : Lib.hasPrefix s.data.toList [239, 187, 191] with _ | _
    · rw [h3] at k3
      have hbom : hasP s.data.toList 0 [239, 187, 191] = false := by
        unfold hasP
        rw [decide_eq_true (by omega), Bool.true_and]
        exact h3
      have c1 : ∀ wx, _ := fun wx => ref_Check s wx (by unfold maxLen; omega)
      have hpl := toksP_plain s h60 h38 hbom
      have c2 : ∀ wx, TokT wx → _ := fun wx ht => tok_Tokens s wx (by omega) ht
      by_cases hc : (chk s).2 = 0
      · have hR := hpl hc
        rw [hc] at c1
        rw [show ((0 : Nat) : Int) = 0 from rfl] at c1
        generalize (chk s).1 = q at *
        clear hpl hc h3 hbom h60 h38
        by_cases h0 : s.size = 0
        · rw [if_pos h0] at hR
          have c2 : ∀ wx, TokT wx → _ := fun wx ht => (c2 wx ht).mono fun _ _ h => h.at hR
          have hz0 : s.toList.isEmpty = true := by
            rw [ByteArray.toList_eq]
            have : s.data.toList.length = 0 := by simpa using h0
            rw [List.isEmpty_iff]; exact List.length_eq_zero_iff.1 this
          have hsz0 : (s.size : Int) = 0 := by omega
          clear hR h0
          go_enter Tryd.func4, Tryd.ntmps4
          (go_wp2_with fail); (refine (k1 _).mono ?_); (rintro e w' ⟨rfl, rfl⟩)
          (go_wp2_with fail); (refine (k2 _).mono ?_); (rintro e w' ⟨rfl, rfl⟩)
          (go_wp2_with fail); (refine (k3 _).mono ?_); (rintro e w' ⟨rfl, rfl⟩)
          go_wp2_with fail
          refine (c1 _).mono ?_
          rintro e w1 ⟨rfl, b1⟩
          have t1 := TokT_below hT b1
          go_wp2_with fail
          refine (c2 _ t1).mono ?_
          rintro e w2 ⟨p, c, rfl, hp, b2⟩
          have t2 := TokT_below t1 b2
          go_wp2_with fail
          refine (cA _ t2).mono ?_
          rintro e w3 ⟨rfl, b3⟩
          go_wp2
          go_ret
          have s1 := b1.size; have s2 := b2.size
          exact ⟨by simp, (b1.trans (b2.mono s1)).trans (b3.mono (by omega))⟩
        · rw [if_neg h0] at hR
          have c2 : ∀ wx, TokT wx → _ := fun wx ht => (c2 wx ht).mono fun _ _ h => h.at hR
          have cL : ∀ wx, _ := fun wx => tref_Lines s wx (by omega)
          have hz0 : s.toList.isEmpty = false := by
            rw [ByteArray.toList_eq]
            have : s.data.toList.length = s.size := by simp
            cases hl : s.data.toList with
            | nil => rw [hl] at this; exact absurd this.symm h0
            | cons _ _ => rfl
          clear hR
          go_enter Tryd.func4, Tryd.ntmps4
          (go_wp2_with fail); (refine (k1 _).mono ?_); (rintro e w' ⟨rfl, rfl⟩)
          (go_wp2_with fail); (refine (k2 _).mono ?_); (rintro e w' ⟨rfl, rfl⟩)
          (go_wp2_with fail); (refine (k3 _).mono ?_); (rintro e w' ⟨rfl, rfl⟩)
          go_wp2_with fail
          refine (c1 _).mono ?_
          rintro e w1 ⟨rfl, b1⟩
          have t1 := TokT_below hT b1
          go_wp2_with fail
          refine (c2 _ t1).mono ?_
          rintro e w2 ⟨p, c, rfl, hp, b2⟩
          have t2 := TokT_below t1 b2
          have e2 : Below w.heap.size w w2 := b1.trans (b2.mono b1.size)
          obtain ⟨a, q', c0', rfl, ⟨a0, a1, a2, a3, a4, a5⟩, _⟩ := hp 0 (by simp)
          simp [Addr.add, tokT] at a0 a1 a2 a3 a4 a5
          clear hp c1 c2 k1 k2 k3 a1 a2 a3 b1 b2 t1 hT
          generalize ofBytes (linesP s.data.toList) = LN at *
          have la0 := kblock_lt a0
          have t2d : TokT w2.drew := TokT_below t2 (Below.refl _ _).drew
          go_wp2
          have kS : ∀ w5, Below w2.drew.heap.size w2.drew w5 → w5.cell? a = some (.int .i64 3) ∧ w5.cell? ⟨a.block, a.off + 4, none⟩ = some (.string LN) ∧ w5.cell? ⟨a.block, a.off + 5, none⟩ = some (.int .i64 0) := fun w5 b5 => ⟨(b5.cell (p := a) la0).trans a0, (b5.cell (p := ⟨a.block, a.off + 4, none⟩) la0).trans a4, (b5.cell (p := ⟨a.block, a.off + 5, none⟩) la0).trans a5⟩
          have kR : ∀ w5 w6 : World, (w5.cell? a = some (.int .i64 3) ∧ w5.cell? ⟨a.block, a.off + 4, none⟩ = some (.string LN) ∧ w5.cell? ⟨a.block, a.off + 5, none⟩ = some (.int .i64 0)) → Below w5.heap.size w5 w6 → w6.cell? a = some (.int .i64 3) ∧ w6.cell? ⟨a.block, a.off + 4, none⟩ = some (.string LN) ∧ w6.cell? ⟨a.block, a.off + 5, none⟩ = some (.int .i64 0) := fun w5 w6 h b6 => ⟨(b6.cell (kblock_lt h.1)).trans h.1, (b6.cell (kblock_lt h.2.1)).trans h.2.1, (b6.cell (kblock_lt h.2.2)).trans h.2.2⟩
          go_region_held3 (fun w' => w'.cell? a = some (.int .i64 3) ∧ w'.cell? ⟨a.block, a.off + 4, none⟩ = some (.string LN) ∧ w'.cell? ⟨a.block, a.off + 5, none⟩ = some (.int .i64 0)) (first | exact ⟨a0, a4, a5⟩ | exact hS5 | exact hS6) (first | (go_at_call 6; refine (cA _ t2d).mono ?_; rintro e w5 ⟨rfl, b5⟩; have hS5 := kS w5 b5) | (go_at_call 11; refine (cL _).mono ?_; rintro e w6 ⟨rfl, b6⟩; have hS6 := kR _ _ hS5 b6))
          go_wp2
          go_ret
          have s2 := e2.size; have s5 := b5.size
          have e3 : Below w.heap.size w w5 := (e2.drew).trans (b5.mono s2)
          exact ⟨rfl, e3.trans (b6.mono e3.size)⟩
      · have hcb : (((chk s).2 : Int) != 0) = true := by simpa using hc
        generalize (chk s).1 = q at *
        generalize (chk s).2 = q2 at *
        clear hpl hc h3 hbom h60 h38 c2
        go_enter Tryd.func4, Tryd.ntmps4
        (go_wp2_with fail); (refine (k1 _).mono ?_); (rintro e w' ⟨rfl, rfl⟩)
        (go_wp2_with fail); (refine (k2 _).mono ?_); (rintro e w' ⟨rfl, rfl⟩)
        (go_wp2_with fail); (refine (k3 _).mono ?_); (rintro e w' ⟨rfl, rfl⟩)
        go_wp2_with fail
        refine (c1 _).mono ?_
        rintro e w1 ⟨rfl, b1⟩
        go_wp2_with fail
        refine (cA _ (TokT_below hT b1)).mono ?_
        rintro e w2 ⟨rfl, b2⟩
        go_wp2
        go_ret
        exact ⟨rfl, b1.trans (b2.mono b1.size)⟩
    · rw [h3] at k3
      clear h60 h38 h3
      go_enter Tryd.func4, Tryd.ntmps4
      (go_wp2_with fail); (refine (k1 _).mono ?_); (rintro e w' ⟨rfl, rfl⟩)
      (go_wp2_with fail); (refine (k2 _).mono ?_); (rintro e w' ⟨rfl, rfl⟩)
      (go_wp2_with fail); (refine (k3 _).mono ?_); (rintro e w' ⟨rfl, rfl⟩)
      go_wp2_with fail
      refine (cA _ hT).mono ?_
      rintro e w1 ⟨rfl, b1⟩
      go_wp2
      go_ret
      exact ⟨rfl, b1⟩
  · have hsz : ¬ (s.size : Int) ≤ 3000 := by omega
    go_enter Tryd.func4, Tryd.ntmps4
    go_wp2_with fail
    refine (cA _ hT).mono ?_
    rintro e w1 ⟨rfl, b1⟩
    go_wp2
    go_ret
    exact ⟨rfl, b1⟩
end Go.Proofs.YtpphpnkijokffaaDoor
