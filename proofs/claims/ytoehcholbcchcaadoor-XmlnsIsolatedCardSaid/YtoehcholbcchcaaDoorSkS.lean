/- Packed from the texts NsV NsW. -/
import Derived.Test.YtoehcholbcchcaaDoorSNsB
import Derived.Test.YtoehcholbcchcaaDoorSTextV
import Derived.Test.YtoehcholbcchcaaDoorSkK
import Derived.Deep.QuietTactic
import Derived.BigQuiet
section
namespace Go.Proofs.YtoehcholbcchcaaDoor
open Go.RowKit
set_option maxRecDepth 100000 in
set_option maxHeartbeats 4000000 in
theorem nref_Split (s : ByteArray) (w : World) (hs : s.size ≤ 1000000) : Calls Tryd.prog 11 #[.string s] w fun e w' => e = .returned (.tuple #[.string (splitP s).1, .string (splitP s).2.1, .bool (splitP s).2.2]) ∧ Below w.heap.size w w' := by
  have hsl : s.data.toList.length = s.size := by simp
  have HSL := Lib.hid hsl
  clear hsl
  go_enter Tryd.func11, Tryd.ntmps11
  go_wp2
  go_loopw [5] (fun q wr => ∃ k : Nat, k ≤ s.size ∧ q = .int .i64 k ∧ (∀ j, j < k → s.data.toList[j]? ≠ some 58) ∧ Below w.heap.size w wr) (fun q _ => s.size - (intOf q).toNat)
  case atStart => exact ⟨0, Nat.zero_le _, rfl, fun j hj => absurd hj (Nat.not_lt_zero _), Below.refl _ _⟩
  case round =>
    obtain ⟨k, hk, rfl, hno, hb⟩ := hrel
    have hz := hb.size
    by_cases hlt : k < s.size
    · have hkl : k < s.data.toList.length := by have := HSL.out; omega
      obtain ⟨x, hx⟩ : ∃ x, s[k]'hlt = x := ⟨_, rfl⟩
      have hxl : s.data.toList[k]? = some x := by
        rw [List.getElem?_eq_getElem hkl, ← hx]
        simp [ByteArray.getElem_eq_getElem_data]
      have hkz : (k : Int) < (s.size : Int) := by omega
      by_cases h58 : x = 58
      · have hix := col_hit s k (by rw [hxl, h58]) hno
        have hsp := split_hit s k hix
        have hxb : ((x.toNat : Int) == 58) = true := by rw [h58]; rfl
        have z1 : (s.extract 0 k).size ≤ 1000000 := by simp only [ByteArray.size_extract]; omega
        have z2 : (s.extract (k + 1) s.size).size ≤ 1000000 := by simp only [ByteArray.size_extract]; omega
        have c1 : ∀ wx, _ := fun wx => ref_IsName (s.extract 0 k) wx (by unfold maxLen; omega)
        have c2 : ∀ wx, _ := fun wx => ref_IsName (s.extract (k + 1) s.size) wx (by unfold maxLen; omega)
        have hk1 : (k : Int) + 1 ≤ (s.size : Int) := by omega
        have hwr : IntKind.i64.wrap ((k : Int) + 1) = (k : Int) + 1 := wrap_small _ (by omega) (by omega)
        have HB := Lib.hid hb
        clear hix hxl h58 hno z1 z2 hb
        rcases hn1 : isNameB (s.extract 0 k) with _ | _
        · rw [hn1, Bool.false_and, if_neg (by simp)] at hsp
          rw [hn1] at c1
          have HS := Lib.hid hsp
          clear hsp hn1
          go_wp2_with fail
          refine (c1 _).mono ?_
          rintro e w1 ⟨rfl, b1⟩
          go_wp2
          exact bodyPost_ret (v := .tuple #[.string ⟨#[]⟩, .string ⟨#[]⟩, .bool false]) (by simp [results, Tryd.results11, go_sem]) rfl ⟨by rw [HS.out]; rfl, HB.out.trans (b1.mono hz)⟩
        · rcases hn2 : isNameB (s.extract (k + 1) s.size) with _ | _
          · rw [hn1, hn2, Bool.and_false, if_neg (by simp)] at hsp
            rw [hn1] at c1
            rw [hn2] at c2
            have HS := Lib.hid hsp
            clear hsp hn1 hn2
            go_wp2_with fail
            refine (c1 _).mono ?_
            rintro e w1 ⟨rfl, b1⟩
            have hz1 := b1.size
            go_wp2_with fail
            refine (c2 _).mono ?_
            rintro e w2 ⟨rfl, b2⟩
            go_wp2
            exact bodyPost_ret (v := .tuple #[.string ⟨#[]⟩, .string ⟨#[]⟩, .bool false]) (by simp [results, Tryd.results11, go_sem]) rfl ⟨by rw [HS.out]; rfl, (HB.out.trans (b1.mono hz)).trans (b2.mono (by omega))⟩
          · rw [hn1, hn2, Bool.and_true, if_pos rfl] at hsp
            rw [hn1] at c1
            rw [hn2] at c2
            have HS := Lib.hid hsp
            clear hsp hn1 hn2
            go_wp2_with fail
            refine (c1 _).mono ?_
            rintro e w1 ⟨rfl, b1⟩
            have hz1 := b1.size
            go_wp2_with fail
            refine (c2 _).mono ?_
            rintro e w2 ⟨rfl, b2⟩
            go_wp2
            go_quiet (fail)
            go_wp2
            exact bodyPost_ret (v := .tuple #[.string (s.extract 0 k), .string (s.extract (k + 1) s.size), .bool true]) (by simp [results, Tryd.results11, go_sem]) rfl ⟨by rw [HS.out], ((HB.out.trans (b1.mono hz)).trans (b2.mono (by omega))).trans ((below_drewN _).mono (by have := b2.size; omega))⟩
      · have hxb : ((x.toNat : Int) == 58) = false := by
          rw [beq_eq_false_iff_ne]
          intro e
          apply h58
          have : x.toNat = 58 := by omega
          exact UInt8.toNat_inj.1 this
        have hno' : ∀ j, j < k + 1 → s.data.toList[j]? ≠ some 58 := fun j hj => by
          by_cases hjk : j < k
          · exact hno j hjk
          · obtain rfl : j = k := by omega
            rw [hxl]
            exact fun e => h58 (Option.some.inj e)
        have HN := Lib.hid hno'
        have HB := Lib.hid hb
        clear hno' hno hxl h58 hb
        go_wp2
        go_roundw
        case rel => exact ⟨k + 1, by omega, by go_num, HN.out, HB.out⟩
        case measure => simp [intOf]; omega
    · obtain rfl : k = s.size := by omega
      have hkz : ¬ (s.size : Int) < (s.size : Int) := by omega
      have hix := col_miss s hno
      have hsp := split_miss s hix
      have c1 : ∀ wx, _ := fun wx => ref_IsName s wx (by unfold maxLen; omega)
      have HB := Lib.hid hb
      clear hix hno hb
      rcases hn1 : isNameB s with _ | _
      · rw [hn1, if_neg (by simp)] at hsp
        rw [hn1] at c1
        have HS := Lib.hid hsp
        clear hsp hn1
        go_wp2_with fail
        refine (c1 _).mono ?_
        rintro e w1 ⟨rfl, b1⟩
        go_wp2
        exact bodyPost_ret (v := .tuple #[.string ⟨#[]⟩, .string ⟨#[]⟩, .bool false]) (by simp [results, Tryd.results11, go_sem]) rfl ⟨by rw [HS.out]; rfl, HB.out.trans (b1.mono hz)⟩
      · rw [hn1, if_pos rfl] at hsp
        rw [hn1] at c1
        have HS := Lib.hid hsp
        clear hsp hn1
        go_wp2_with fail
        refine (c1 _).mono ?_
        rintro e w1 ⟨rfl, b1⟩
        go_wp2
        exact bodyPost_ret (v := .tuple #[.string ⟨#[]⟩, .string s, .bool true]) (by simp [results, Tryd.results11, go_sem]) rfl ⟨by rw [HS.out]; rfl, HB.out.trans (b1.mono hz)⟩
end Go.Proofs.YtoehcholbcchcaaDoor
end
section
namespace Go.Proofs.YtoehcholbcchcaaDoor
open Go.RowKit
set_option maxRecDepth 100000 in
set_option maxHeartbeats 4000000 in
theorem walk_NsSplits (s : ByteArray) (w : World) (hT : NsT w) : Calls Tryd.prog 3 #[.string s] w fun e w' => e = .returned (.bool true) ∧ Below w.heap.size w w' := by
  have cA : ∀ wx, NsT wx → _ := fun wx ht => la_alive wx ht
  by_cases hs : s.size ≤ 5000
  · have hsz : (s.size : Int) ≤ 5000 := by omega
    have c1 := ns_Split s w (by omega) hT
    have c2 : ∀ wx, _ := fun wx => nref_Split s wx (by omega)
    generalize (splitP s).1 = p at *
    generalize (splitP s).2.1 = l at *
    generalize (splitP s).2.2 = ok at *
    clear hs
    go_enter Tryd.func3, Tryd.ntmps3
    go_wp2_with fail
    refine c1.mono ?_
    rintro e w1 ⟨rfl, b1⟩
    go_wp2_with fail
    refine (c2 _).mono ?_
    rintro e w2 ⟨rfl, b2⟩
    have b12 := b1.trans (b2.mono b1.size)
    have t2 := NsT_below hT b12
    go_wp2_with fail
    refine (cA _ t2).mono ?_
    rintro e w3 ⟨rfl, b3⟩
    go_wp2
    exact bodyPost_ret (v := .bool true) (by simp [results, Tryd.results3, go_sem]) rfl ⟨rfl, b12.trans (b3.mono b12.size)⟩
  · have hsz : (5000 : Int) < (s.size : Int) := by omega
    have c3 := cA w hT
    clear hs
    go_enter Tryd.func3, Tryd.ntmps3
    go_wp2_with fail
    refine c3.mono ?_
    rintro e w3 ⟨rfl, b3⟩
    go_wp2
    exact bodyPost_ret (v := .bool true) (by simp [results, Tryd.results3, go_sem]) rfl ⟨rfl, b3⟩
end Go.Proofs.YtoehcholbcchcaaDoor
end
