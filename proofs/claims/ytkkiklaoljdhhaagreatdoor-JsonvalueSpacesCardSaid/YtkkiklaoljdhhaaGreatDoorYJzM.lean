/- Packed from the texts JzM. -/
import Derived.Test.YtkkiklaoljdhhaaGreatDoorYJpW
import Derived.Test.YtkkiklaoljdhhaaGreatDoorYJvH
import Derived.Test.YtkkiklaoljdhhaaGreatDoorYJvY
import Derived.Test.YtkkiklaoljdhhaaGreatDoorYJzC
section
namespace Go.Proofs.YtkkiklaoljdhhaaGreatDoor
open Go.RowKit
theorem vcnts_app : ∀ (l : List ValD) (v : ValD), vcnts (l ++ [v]) = vcnts l + v.cnt
  | [], v => by rw [List.nil_append]; simp [vcnts]
  | k :: r, v => by rw [List.cons_append, vcnts, vcnts, vcnts_app r v]; omega
theorem mcnts_app : ∀ (l : List MemD) (m : MemD), mcnts (l ++ [m]) = mcnts l + m.cnt
  | [], m => by rw [List.nil_append]; simp [mcnts]
  | k :: r, m => by rw [List.cons_append, mcnts, mcnts, mcnts_app r m]; omega
theorem leaf_cnt (K : Int) (B : Bool) (N : Int) (x : ByteArray) (i : Nat) : (leafV K B N x i).cnt = 1 := by rw [leafV, ValD.cnt, vcnts, mcnts]
theorem word_cnt (i : Nat) (l t : List UInt8) (K : Int) (B : Bool) (v : ValD) (k : Nat) (ht : 1 ≤ t.length) (h : wordK i l t K B = .ok v k) : v.cnt ≤ k := by
  unfold wordK at h
  split at h
  · injection h with h1 h2
    rw [← h1, leaf_cnt]
    omega
  · cases h
theorem str_cnt (i : Nat) (l : List UInt8) (v : ValD) (k : Nat) (h : strK i l = .ok v k) : v.cnt ≤ k := by
  unfold strK at h
  split at h
  · cases h
  · rename_i he
    have := parJ_end i _ (l.drop 1) (i + 1) [] (Nat.le_refl _) (Classical.byContradiction he)
    injection h with h1 h2
    rw [← h1, leaf_cnt]
    omega
theorem num_cnt (i : Nat) (l : List UInt8) (v : ValD) (k : Nat) (h : numK i l = .ok v k) : v.cnt ≤ k := by
  unfold numK at h
  split at h
  · rename_i n hn
    injection h with h1 h2
    rw [← h1, leaf_cnt, ← h2]
    refine List.length_pos_iff.2 fun e => ?_
    rw [e] at hn
    cases hn
  · cases h
theorem plus_okK {R : Jres} {c k : Nat} {v : ValD} (h : R.plus c = .ok v k) : ∃ j, R = .ok v j ∧ k = c + j := by
  cases R with
  | err a e => cases h
  | ok u j =>
    injection h with h1 h2
    subst h1
    exact ⟨j, rfl, h2.symm⟩
theorem cnt_all : ∀ f : Nat, (∀ i l d v k, valK f i l d = .ok v k → v.cnt ≤ k) ∧ (∀ i l d v k, headK f i l d = .ok v k → v.cnt ≤ k) ∧ (∀ obj fr items mems i l d v k, listK f obj fr items mems i l d = .ok v k → v.cnt ≤ 1 + vcnts items + mcnts mems + k)
  | 0 => ⟨(fun i l d v k h => by rw [valK] at h; cases h), (fun i l d v k h => by rw [headK] at h; cases h), (fun obj fr items mems i l d v k h => by rw [listK] at h; cases h)⟩
  | f + 1 => by
    obtain ⟨iV, iH, iL⟩ := cnt_all f
    refine ⟨fun i l d v k h => ?_, fun i l d v k h => ?_, fun obj fr items mems i l d v k h => ?_⟩
    · rw [valK] at h
      obtain ⟨j, hj, rfl⟩ := plus_okK h
      have := iH _ _ _ _ _ hj
      omega
    · rw [headK] at h
      split at h
      · cases h
      split at h
      · exact word_cnt _ _ _ _ _ _ _ (by decide) h
      split at h
      · exact word_cnt _ _ _ _ _ _ _ (by decide) h
      split at h
      · exact word_cnt _ _ _ _ _ _ _ (by decide) h
      split at h
      · exact str_cnt _ _ _ _ h
      split at h
      · split at h
        · cases h
        split at h
        · injection h with h1 h2
          rw [← h1, ValD.cnt, vcnts, mcnts]
          omega
        · obtain ⟨j, hj, rfl⟩ := plus_okK h
          have := iL _ _ _ _ _ _ _ _ _ hj
          rw [vcnts, mcnts] at this
          omega
      split at h
      · exact num_cnt _ _ _ _ h
      · cases h
    · rw [listK] at h
      split at h
      · cases h
      rename_i key kk hk
      split at h
      · cases h
      rename_i u kv hv
      have hu := iV _ _ _ _ _ hv
      simp only at h
      have hc : vcnts (if obj then items else items ++ [u]) + mcnts (if obj then mems ++ [.mk (ofBytes key) u (i + spN l : Nat)] else mems) = vcnts items + mcnts mems + u.cnt := by
        cases obj
        · simp only [Bool.false_eq_true, if_false]
          rw [vcnts_app]
          omega
        · simp only [if_true]
          rw [mcnts_app, MemD.cnt]
          omega
      split at h
      · injection h with h1 h2
        rw [← h1, ValD.cnt]
        omega
      split at h
      · obtain ⟨j, hj, rfl⟩ := plus_okK h
        have := iL _ _ _ _ _ _ _ _ _ hj
        omega
      · cases h
theorem parR_cnt (l : List UInt8) : (parR l).1.cnt ≤ l.length + 4 := by
  have hz : zeroVal.cnt = 1 := by rw [zeroVal, ValD.cnt, vcnts, mcnts]
  unfold parR tA vA
  generalize hb : (if [239, 187, 191].isPrefixOf l = true then 3 else 0) = b
  rcases hV : valK (3 * (l.drop b).length + 2) b (l.drop b) 1 with ⟨a, e⟩ | ⟨v, k⟩
  · show zeroVal.cnt ≤ _
    omega
  · have h1 := (cnt_all _).1 _ _ _ _ _ hV
    simp only [Jres.to]
    by_cases h : spP l (b + k) < l.length
    · simp only [if_pos h]
      omega
    · simp only [if_neg h]
      have := ((ends _).1 _ _ _ _ _ hV).2
      rw [List.length_drop] at this
      omega
set_option maxRecDepth 100000 in
set_option maxHeartbeats 16000000 in
theorem walk_JvMatches (s : ByteArray) (w : World) (hT : TabV w) :
    Calls Tryz.prog 3 #[.string s] w fun e w' => e = .returned (.bool true) ∧ Below w.heap.size w w' := by
  by_cases hl : 3000 < s.size
  · have hlz : (3000 : Int) < (s.size : Int) := by omega
    go_enter Tryz.func3, Tryz.ntmps3
    go_wp2_with fail
    refine (jv_alive _ hT).mono ?_
    rintro e w1 ⟨rfl, b1⟩
    go_wp2
    go_ret
    exact ⟨rfl, b1⟩
  · have hlz : ¬ (3000 : Int) < (s.size : Int) := by omega
    have c1 := jp_Parse s w (by omega) hT
    have c2 : ∀ wx, _ := fun wx => jref_ParseJ s wx (by omega)
    have hcn := parR_cnt s.data.toList
    rw [show s.data.toList.length = s.size by simp] at hcn
    obtain ⟨⟨v, a, x⟩, hP⟩ : ∃ P, parR s.data.toList = P := ⟨_, rfl⟩
    rw [hP] at c1 c2 hcn
    simp only at c1 c2 hcn
    have HT := Lib.hid hT
    clear hP hT hl
    go_enter Tryz.func3, Tryz.ntmps3
    go_wp2_with fail
    refine c1.mono ?_
    rintro en w1 ⟨⟨v1, rfl, hv1⟩, b1⟩
    obtain ⟨p1, d1, q1, e1, rfl⟩ := jval_form hv1
    obtain ⟨W1, hW1⟩ : ∃ W1, W1 = w1.alloc (.cells #[.int .i64 v.kind, .bool v.b, .int .i64 v.n, .string v.s, .slice p1 v.items.length d1, .slice q1 v.mems.length e1, .int .i64 v.at'] 26) := ⟨_, rfl⟩
    have B1 : Bj W1 w1.heap.size #[.int .i64 v.kind, .bool v.b, .int .i64 v.n, .string v.s, .slice p1 v.items.length d1, .slice q1 v.mems.length e1, .int .i64 v.at'] 26 := by rw [hW1]; exact Bj.new w1 _ _
    have bW1 : Below w1.heap.size w1 W1 := by rw [hW1]; exact (Below.refl _ _).alloc (Nat.le_refl _) _
    go_upto_region 4 with fail
    simp only [← hW1]
    clear hW1
    go_wp2_with fail
    refine (c2 _).mono ?_
    rintro en w2 ⟨⟨v2, rfl, hv2⟩, b2⟩
    obtain ⟨p2, d2, q2, e2, rfl⟩ := jval_form hv2
    obtain ⟨W2, hW2⟩ : ∃ W2, W2 = w2.alloc (.cells #[.int .i64 v.kind, .bool v.b, .int .i64 v.n, .string v.s, .slice p2 v.items.length d2, .slice q2 v.mems.length e2, .int .i64 v.at'] 26) := ⟨_, rfl⟩
    have B2 : Bj W2 w2.heap.size #[.int .i64 v.kind, .bool v.b, .int .i64 v.n, .string v.s, .slice p2 v.items.length d2, .slice q2 v.mems.length e2, .int .i64 v.at'] 26 := by rw [hW2]; exact Bj.new w2 _ _
    have bW2 : Below w2.heap.size w2 W2 := by rw [hW2]; exact (Below.refl _ _).alloc (Nat.le_refl _) _
    go_upto_region 5 with fail
    simp only [← hW2]
    clear hW2
    have z1 := b1.size
    have z2 := bW1.size
    have z3 := b2.size
    have z4 := bW2.size
    have bA : Below w.heap.size w W2 := ((b1.trans (bW1.mono z1)).trans (b2.mono (by omega))).trans (bW2.mono (by omega))
    have hT2 : TabV W2 := TabV_below HT.out bA
    have bB : Below w1.heap.size w1 W2 := (bW1.trans (b2.mono z2)).trans (bW2.mono (by omega))
    have HX := Lib.hid (ValIs.below bB _ _ hv1)
    have HY := Lib.hid (ValIs.below bW2 _ _ hv2)
    have HB1 := Lib.hid ((B1.more b2).more bW2)
    have HB2 := Lib.hid B2
    have HA := Lib.hid bA
    clear b1 bW1 b2 bW2 bB bA B1 B2 hv1 hv2 c1 c2
    go_wp2_with fail
    refine (jv_alive _ hT2).mono ?_
    rintro en w3 ⟨rfl, b3⟩
    obtain ⟨⟨x0, x1, x2, x3, x4, x5, x6⟩, -⟩ := (HB1.out.more b3).seven
    obtain ⟨⟨y0, y1, y2, y3, y4, y5, y6⟩, -⟩ := (HB2.out.more b3).seven
    have cE := jref_Equal true v.cnt v v _ _ w3 (Nat.le_refl _) (by omega) (ValIs.below b3 _ _ HX.out) (ValIs.below b3 _ _ HY.out)
    rw [veq_self] at cE
    have HA3 := Lib.hid (HA.out.trans (b3.mono HA.out.size))
    clear b3 hT2 HX HY HB1 HB2
    go_wp2_with fail
    refine cE.mono ?_
    rintro en w4 ⟨rfl, b4⟩
    have HA4 := Lib.hid (HA3.out.trans (b4.mono HA3.out.size))
    clear b4 cE
    go_wp2
    go_ret
    exact ⟨rfl, HA4.out⟩
end Go.Proofs.YtkkiklaoljdhhaaGreatDoor
end
