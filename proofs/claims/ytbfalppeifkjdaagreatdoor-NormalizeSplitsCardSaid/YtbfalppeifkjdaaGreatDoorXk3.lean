/- Packed from the texts JwG JwM. -/
import Derived.Test.YtbfalppeifkjdaaGreatDoorXkG
import Derived.Test.YtbfalppeifkjdaaGreatDoorXkJ
import Derived.Test.YtbfalppeifkjdaaGreatDoorXkU
import Derived.Deep.Cut
import Derived.Deep.QuietTactic
import Derived.BigQuiet
import Derived.Maps.Own
import Derived.Maps.Views
import Derived.OwnWalk
section
namespace Go.Proofs.YtbfalppeifkjdaaGreatDoor
open Go.RowKit
theorem jretBw {a b : Bool} (h : a = b) : Ending.returned (.bool a) = .returned (.bool b) := by rw [h]
set_option maxRecDepth 100000 in
set_option maxHeartbeats 64000000 in
theorem jw_proper (n : ValD) (v : Value) (w : World) (hc : n.bulk ≤ 1000000) (hn : ValIs w n v) : Calls Tryz.prog 152 #[v] w fun e w' => e = .returned (.bool (properB n)) ∧ Below w.heap.size w w' := by
    have hbe := vbulk_eq n
    have hil : (n.items.length : Int) ≤ 1000000 := by have := bulkVs_len n.items; omega
    have hml : (n.mems.length : Int) ≤ 1000000 := by have := bulkMs_len n.mems; omega
    have hP : properB n = decide ((0 ≤ n.kind ∧ n.kind ≤ 5) ∧ (n.kind = 1 ∨ n.b = false) ∧ (n.kind = 2 ∨ n.n = 0) ∧ (n.kind = 3 ∨ n.s.size = 0) ∧ (n.kind = 4 ∨ n.items.length = 0) ∧ (n.kind = 5 ∨ n.mems.length = 0)) := rfl
    obtain ⟨p, c, q, d, rfl, hI, hM⟩ := (val_is w n v).1 hn
    generalize properB n = P at *
    clear hn hbe hc hI hM
    generalize n.kind = kd at *
    generalize n.b = bb at *
    generalize n.n = nn at *
    generalize n.s = ss at *
    generalize n.items = items at *
    generalize n.mems = mems at *
    generalize n.at' = aa at *
    have HP := Lib.hid hP
    clear hP
    obtain ⟨W0, hW0⟩ : ∃ W0, W0 = w.alloc (.cells #[.int .i64 kd, .bool bb, .int .i64 nn, .string ss, .slice p items.length c, .slice q mems.length d, .int .i64 aa] 119) := ⟨_, rfl⟩
    have B0 : Bj W0 w.heap.size #[.int .i64 kd, .bool bb, .int .i64 nn, .string ss, .slice p items.length c, .slice q mems.length d, .int .i64 aa] 119 := by rw [hW0]; exact Bj.new w _ _
    have HB0 := Lib.hid (show Below w.heap.size w W0 by rw [hW0]; exact (Below.refl _ _).alloc (Nat.le_refl _) _)
    obtain ⟨⟨f0, f1, f2, f3, f4, f5, -⟩, ⟨-, z1, z2, z3, z4, z5, -⟩⟩ := B0.seven
    clear B0
    go_enter Tryz.func152, Tryz.ntmps152
    go_upto_region 1 with fail
    simp only [← hW0]
    clear hW0
    by_cases hk1 : kd < 0
    · have hk2 : ¬ (0 : Int) ≤ kd := by omega
      have hPF : P = false := by
        rw [HP.out]
        refine decide_eq_false ?_
        rintro ⟨⟨a1, a2⟩, a3, a4, a5, a6, a7⟩
        omega
      clear HP
      clear z1 z2 z3 z4 z5
      go_wp2
      go_ret
      exact ⟨jretBw (by first | rfl | rw [hPF]), HB0.out⟩
    by_cases hk3 : 5 < kd
    · have hPF : P = false := by
        rw [HP.out]
        refine decide_eq_false ?_
        rintro ⟨⟨a1, a2⟩, a3, a4, a5, a6, a7⟩
        omega
      clear HP
      clear z1 z2 z3 z4 z5
      go_wp2
      go_ret
      exact ⟨jretBw (by first | rfl | rw [hPF]), HB0.out⟩
    rcases (show kd = 0 ∨ kd = 1 ∨ kd = 2 ∨ kd = 3 ∨ kd = 4 ∨ kd = 5 by omega) with rfl | rfl | rfl | rfl | rfl | rfl
    · clear hk1 hk3
      cases bb with
      | true =>
        have hPF : P = false := by
          rw [HP.out]
          refine decide_eq_false ?_
          rintro ⟨⟨a1, a2⟩, a3, a4, a5, a6, a7⟩
          rcases a3 with a3 | a3
          · exact absurd a3 (by decide)
          · cases a3
        clear HP
        clear z1 z2 z3 z4 z5
        go_wp2
        go_ret
        exact ⟨jretBw (by first | rfl | rw [hPF]), HB0.out⟩
      | false =>
        by_cases hn0 : nn = 0
        case neg =>
          have hn1 : (nn != 0) = true := by simpa using hn0
          have hn2 : (nn == 0) = false := by simpa using hn0
          have hPF : P = false := by
            rw [HP.out]
            refine decide_eq_false ?_
            rintro ⟨⟨a1, a2⟩, a3, a4, a5, a6, a7⟩
            omega
          clear HP
          clear z1 z2 z3 z4 z5
          go_wp2
          go_ret
          exact ⟨jretBw (by first | rfl | rw [hPF]), HB0.out⟩
        case pos =>
          subst hn0
          by_cases hs0 : ss.size = 0
          case neg =>
            have hs4 : ss.toList ≠ [] := fun e => hs0 (by rw [ByteArray.toList_eq] at e; have := congrArg List.length e; simpa using this)
            have hs5 : (ss.toList == []) = false := beq_eq_false_iff_ne.2 hs4
            have hs6 : ss.toList.isEmpty = false := List.isEmpty_eq_false_iff.2 hs4
            have hPF : P = false := by
              rw [HP.out]
              refine decide_eq_false ?_
              rintro ⟨⟨a1, a2⟩, a3, a4, a5, a6, a7⟩
              omega
            clear HP
            clear z1 z2 z3 z4 z5
            go_wp2
            go_ret
            exact ⟨jretBw (by first | rfl | rw [hPF]), HB0.out⟩
          case pos =>
            obtain rfl := size0 hs0
            clear hs0
            by_cases hi0 : items.length = 0
            case neg =>
              have hi1 : 0 < items.length := by omega
              have hi2 : (0 : Int) < (items.length : Int) := by omega
              have hi3 : ((items.length : Int) == 0) = false := beq_eq_false_iff_ne.2 (by omega)
              have hPF : P = false := by
                rw [HP.out]
                refine decide_eq_false ?_
                rintro ⟨⟨a1, a2⟩, a3, a4, a5, a6, a7⟩
                omega
              clear HP
              clear z1 z2 z3 z4 z5
              go_wp2
              go_ret
              exact ⟨jretBw (by first | rfl | rw [hPF]), HB0.out⟩
            case pos =>
              obtain rfl := List.length_eq_zero_iff.1 hi0
              clear hi0
              by_cases hm0 : mems.length = 0
              case neg =>
                have hm1 : 0 < mems.length := by omega
                have hm2 : (0 : Int) < (mems.length : Int) := by omega
                have hm3 : ((mems.length : Int) == 0) = false := beq_eq_false_iff_ne.2 (by omega)
                have hPF : P = false := by
                  rw [HP.out]
                  refine decide_eq_false ?_
                  rintro ⟨⟨a1, a2⟩, a3, a4, a5, a6, a7⟩
                  omega
                clear HP
                clear z1 z2 z3 z4 z5
                go_wp2
                go_ret
                exact ⟨jretBw (by first | rfl | rw [hPF]), HB0.out⟩
              case pos =>
                obtain rfl := List.length_eq_zero_iff.1 hm0
                clear hm0
                have hPT : P = true := by
                  rw [HP.out]
                  refine decide_eq_true ⟨⟨by decide, by decide⟩, .inr rfl, .inr rfl, .inr rfl, .inr rfl, .inr rfl⟩
                clear HP
                clear z1 z2 z3 z4 z5
                go_wp2
                go_ret
                exact ⟨jretBw (by first | rfl | rw [hPT]), HB0.out⟩
    · clear hk1 hk3
      by_cases hn0 : nn = 0
      case neg =>
        have hn1 : (nn != 0) = true := by simpa using hn0
        have hn2 : (nn == 0) = false := by simpa using hn0
        have hPF : P = false := by
          rw [HP.out]
          refine decide_eq_false ?_
          rintro ⟨⟨a1, a2⟩, a3, a4, a5, a6, a7⟩
          omega
        clear HP
        clear z2 z3 z4 z5
        go_wp2
        go_ret
        exact ⟨jretBw (by first | rfl | rw [hPF]), HB0.out.setCell (by simp) _⟩
      case pos =>
        subst hn0
        by_cases hs0 : ss.size = 0
        case neg =>
          have hs4 : ss.toList ≠ [] := fun e => hs0 (by rw [ByteArray.toList_eq] at e; have := congrArg List.length e; simpa using this)
          have hs5 : (ss.toList == []) = false := beq_eq_false_iff_ne.2 hs4
          have hs6 : ss.toList.isEmpty = false := List.isEmpty_eq_false_iff.2 hs4
          have hPF : P = false := by
            rw [HP.out]
            refine decide_eq_false ?_
            rintro ⟨⟨a1, a2⟩, a3, a4, a5, a6, a7⟩
            omega
          clear HP
          clear z2 z3 z4 z5
          go_wp2
          go_ret
          exact ⟨jretBw (by first | rfl | rw [hPF]), HB0.out.setCell (by simp) _⟩
        case pos =>
          obtain rfl := size0 hs0
          clear hs0
          by_cases hi0 : items.length = 0
          case neg =>
            have hi1 : 0 < items.length := by omega
            have hi2 : (0 : Int) < (items.length : Int) := by omega
            have hi3 : ((items.length : Int) == 0) = false := beq_eq_false_iff_ne.2 (by omega)
            have hPF : P = false := by
              rw [HP.out]
              refine decide_eq_false ?_
              rintro ⟨⟨a1, a2⟩, a3, a4, a5, a6, a7⟩
              omega
            clear HP
            clear z2 z3 z4 z5
            go_wp2
            go_ret
            exact ⟨jretBw (by first | rfl | rw [hPF]), HB0.out.setCell (by simp) _⟩
          case pos =>
            obtain rfl := List.length_eq_zero_iff.1 hi0
            clear hi0
            by_cases hm0 : mems.length = 0
            case neg =>
              have hm1 : 0 < mems.length := by omega
              have hm2 : (0 : Int) < (mems.length : Int) := by omega
              have hm3 : ((mems.length : Int) == 0) = false := beq_eq_false_iff_ne.2 (by omega)
              have hPF : P = false := by
                rw [HP.out]
                refine decide_eq_false ?_
                rintro ⟨⟨a1, a2⟩, a3, a4, a5, a6, a7⟩
                omega
              clear HP
              clear z2 z3 z4 z5
              go_wp2
              go_ret
              exact ⟨jretBw (by first | rfl | rw [hPF]), HB0.out.setCell (by simp) _⟩
            case pos =>
              obtain rfl := List.length_eq_zero_iff.1 hm0
              clear hm0
              have hPT : P = true := by
                rw [HP.out]
                refine decide_eq_true ⟨⟨by decide, by decide⟩, .inl rfl, .inr rfl, .inr rfl, .inr rfl, .inr rfl⟩
              clear HP
              clear z2 z3 z4 z5
              go_wp2
              go_ret
              exact ⟨jretBw (by first | rfl | rw [hPT]), HB0.out.setCell (by simp) _⟩
    · clear hk1 hk3
      cases bb with
      | true =>
        have hPF : P = false := by
          rw [HP.out]
          refine decide_eq_false ?_
          rintro ⟨⟨a1, a2⟩, a3, a4, a5, a6, a7⟩
          rcases a3 with a3 | a3
          · exact absurd a3 (by decide)
          · cases a3
        clear HP
        clear z1 z3 z4 z5
        go_wp2
        go_ret
        exact ⟨jretBw (by first | rfl | rw [hPF]), HB0.out.setCell (by simp) _⟩
      | false =>
        by_cases hs0 : ss.size = 0
        case neg =>
          have hs4 : ss.toList ≠ [] := fun e => hs0 (by rw [ByteArray.toList_eq] at e; have := congrArg List.length e; simpa using this)
          have hs5 : (ss.toList == []) = false := beq_eq_false_iff_ne.2 hs4
          have hs6 : ss.toList.isEmpty = false := List.isEmpty_eq_false_iff.2 hs4
          have hPF : P = false := by
            rw [HP.out]
            refine decide_eq_false ?_
            rintro ⟨⟨a1, a2⟩, a3, a4, a5, a6, a7⟩
            omega
          clear HP
          clear z1 z3 z4 z5
          go_wp2
          go_ret
          exact ⟨jretBw (by first | rfl | rw [hPF]), HB0.out.setCell (by simp) _⟩
        case pos =>
          obtain rfl := size0 hs0
          clear hs0
          by_cases hi0 : items.length = 0
          case neg =>
            have hi1 : 0 < items.length := by omega
            have hi2 : (0 : Int) < (items.length : Int) := by omega
            have hi3 : ((items.length : Int) == 0) = false := beq_eq_false_iff_ne.2 (by omega)
            have hPF : P = false := by
              rw [HP.out]
              refine decide_eq_false ?_
              rintro ⟨⟨a1, a2⟩, a3, a4, a5, a6, a7⟩
              omega
            clear HP
            clear z1 z3 z4 z5
            go_wp2
            go_ret
            exact ⟨jretBw (by first | rfl | rw [hPF]), HB0.out.setCell (by simp) _⟩
          case pos =>
            obtain rfl := List.length_eq_zero_iff.1 hi0
            clear hi0
            by_cases hm0 : mems.length = 0
            case neg =>
              have hm1 : 0 < mems.length := by omega
              have hm2 : (0 : Int) < (mems.length : Int) := by omega
              have hm3 : ((mems.length : Int) == 0) = false := beq_eq_false_iff_ne.2 (by omega)
              have hPF : P = false := by
                rw [HP.out]
                refine decide_eq_false ?_
                rintro ⟨⟨a1, a2⟩, a3, a4, a5, a6, a7⟩
                omega
              clear HP
              clear z1 z3 z4 z5
              go_wp2
              go_ret
              exact ⟨jretBw (by first | rfl | rw [hPF]), HB0.out.setCell (by simp) _⟩
            case pos =>
              obtain rfl := List.length_eq_zero_iff.1 hm0
              clear hm0
              have hPT : P = true := by
                rw [HP.out]
                refine decide_eq_true ⟨⟨by decide, by decide⟩, .inr rfl, .inl rfl, .inr rfl, .inr rfl, .inr rfl⟩
              clear HP
              clear z1 z3 z4 z5
              go_wp2
              go_ret
              exact ⟨jretBw (by first | rfl | rw [hPT]), HB0.out.setCell (by simp) _⟩
    · clear hk1 hk3
      cases bb with
      | true =>
        have hPF : P = false := by
          rw [HP.out]
          refine decide_eq_false ?_
          rintro ⟨⟨a1, a2⟩, a3, a4, a5, a6, a7⟩
          rcases a3 with a3 | a3
          · exact absurd a3 (by decide)
          · cases a3
        clear HP
        clear z1 z2 z4 z5
        go_wp2
        go_ret
        exact ⟨jretBw (by first | rfl | rw [hPF]), HB0.out.setCell (by simp) _⟩
      | false =>
        by_cases hn0 : nn = 0
        case neg =>
          have hn1 : (nn != 0) = true := by simpa using hn0
          have hn2 : (nn == 0) = false := by simpa using hn0
          have hPF : P = false := by
            rw [HP.out]
            refine decide_eq_false ?_
            rintro ⟨⟨a1, a2⟩, a3, a4, a5, a6, a7⟩
            omega
          clear HP
          clear z1 z2 z4 z5
          go_wp2
          go_ret
          exact ⟨jretBw (by first | rfl | rw [hPF]), HB0.out.setCell (by simp) _⟩
        case pos =>
          subst hn0
          by_cases hi0 : items.length = 0
          case neg =>
            have hi1 : 0 < items.length := by omega
            have hi2 : (0 : Int) < (items.length : Int) := by omega
            have hi3 : ((items.length : Int) == 0) = false := beq_eq_false_iff_ne.2 (by omega)
            have hPF : P = false := by
              rw [HP.out]
              refine decide_eq_false ?_
              rintro ⟨⟨a1, a2⟩, a3, a4, a5, a6, a7⟩
              omega
            clear HP
            clear z1 z2 z4 z5
            go_wp2
            go_ret
            exact ⟨jretBw (by first | rfl | rw [hPF]), HB0.out.setCell (by simp) _⟩
          case pos =>
            obtain rfl := List.length_eq_zero_iff.1 hi0
            clear hi0
            by_cases hm0 : mems.length = 0
            case neg =>
              have hm1 : 0 < mems.length := by omega
              have hm2 : (0 : Int) < (mems.length : Int) := by omega
              have hm3 : ((mems.length : Int) == 0) = false := beq_eq_false_iff_ne.2 (by omega)
              have hPF : P = false := by
                rw [HP.out]
                refine decide_eq_false ?_
                rintro ⟨⟨a1, a2⟩, a3, a4, a5, a6, a7⟩
                omega
              clear HP
              clear z1 z2 z4 z5
              go_wp2
              go_ret
              exact ⟨jretBw (by first | rfl | rw [hPF]), HB0.out.setCell (by simp) _⟩
            case pos =>
              obtain rfl := List.length_eq_zero_iff.1 hm0
              clear hm0
              have hPT : P = true := by
                rw [HP.out]
                refine decide_eq_true ⟨⟨by decide, by decide⟩, .inr rfl, .inr rfl, .inl rfl, .inr rfl, .inr rfl⟩
              clear HP
              clear z1 z2 z4 z5
              go_wp2
              go_ret
              exact ⟨jretBw (by first | rfl | rw [hPT]), HB0.out.setCell (by simp) _⟩
    · clear hk1 hk3
      cases bb with
      | true =>
        have hPF : P = false := by
          rw [HP.out]
          refine decide_eq_false ?_
          rintro ⟨⟨a1, a2⟩, a3, a4, a5, a6, a7⟩
          rcases a3 with a3 | a3
          · exact absurd a3 (by decide)
          · cases a3
        clear HP
        clear z1 z2 z3 z5
        go_wp2
        go_ret
        exact ⟨jretBw (by first | rfl | rw [hPF]), HB0.out.setCell (by simp) _⟩
      | false =>
        by_cases hn0 : nn = 0
        case neg =>
          have hn1 : (nn != 0) = true := by simpa using hn0
          have hn2 : (nn == 0) = false := by simpa using hn0
          have hPF : P = false := by
            rw [HP.out]
            refine decide_eq_false ?_
            rintro ⟨⟨a1, a2⟩, a3, a4, a5, a6, a7⟩
            omega
          clear HP
          clear z1 z2 z3 z5
          go_wp2
          go_ret
          exact ⟨jretBw (by first | rfl | rw [hPF]), HB0.out.setCell (by simp) _⟩
        case pos =>
          subst hn0
          by_cases hs0 : ss.size = 0
          case neg =>
            have hs4 : ss.toList ≠ [] := fun e => hs0 (by rw [ByteArray.toList_eq] at e; have := congrArg List.length e; simpa using this)
            have hs5 : (ss.toList == []) = false := beq_eq_false_iff_ne.2 hs4
            have hs6 : ss.toList.isEmpty = false := List.isEmpty_eq_false_iff.2 hs4
            have hPF : P = false := by
              rw [HP.out]
              refine decide_eq_false ?_
              rintro ⟨⟨a1, a2⟩, a3, a4, a5, a6, a7⟩
              omega
            clear HP
            clear z1 z2 z3 z5
            go_wp2
            go_ret
            exact ⟨jretBw (by first | rfl | rw [hPF]), HB0.out.setCell (by simp) _⟩
          case pos =>
            obtain rfl := size0 hs0
            clear hs0
            by_cases hm0 : mems.length = 0
            case neg =>
              have hm1 : 0 < mems.length := by omega
              have hm2 : (0 : Int) < (mems.length : Int) := by omega
              have hm3 : ((mems.length : Int) == 0) = false := beq_eq_false_iff_ne.2 (by omega)
              have hPF : P = false := by
                rw [HP.out]
                refine decide_eq_false ?_
                rintro ⟨⟨a1, a2⟩, a3, a4, a5, a6, a7⟩
                omega
              clear HP
              clear z1 z2 z3 z5
              go_wp2
              go_ret
              exact ⟨jretBw (by first | rfl | rw [hPF]), HB0.out.setCell (by simp) _⟩
            case pos =>
              obtain rfl := List.length_eq_zero_iff.1 hm0
              clear hm0
              have hPT : P = true := by
                rw [HP.out]
                refine decide_eq_true ⟨⟨by decide, by decide⟩, .inr rfl, .inr rfl, .inr rfl, .inl rfl, .inr rfl⟩
              clear HP
              clear z1 z2 z3 z5
              go_wp2
              go_ret
              exact ⟨jretBw (by first | rfl | rw [hPT]), HB0.out.setCell (by simp) _⟩
    · clear hk1 hk3
      cases bb with
      | true =>
        have hPF : P = false := by
          rw [HP.out]
          refine decide_eq_false ?_
          rintro ⟨⟨a1, a2⟩, a3, a4, a5, a6, a7⟩
          rcases a3 with a3 | a3
          · exact absurd a3 (by decide)
          · cases a3
        clear HP
        clear z1 z2 z3 z4
        go_wp2
        go_ret
        exact ⟨jretBw (by first | rfl | rw [hPF]), HB0.out.setCell (by simp) _⟩
      | false =>
        by_cases hn0 : nn = 0
        case neg =>
          have hn1 : (nn != 0) = true := by simpa using hn0
          have hn2 : (nn == 0) = false := by simpa using hn0
          have hPF : P = false := by
            rw [HP.out]
            refine decide_eq_false ?_
            rintro ⟨⟨a1, a2⟩, a3, a4, a5, a6, a7⟩
            omega
          clear HP
          clear z1 z2 z3 z4
          go_wp2
          go_ret
          exact ⟨jretBw (by first | rfl | rw [hPF]), HB0.out.setCell (by simp) _⟩
        case pos =>
          subst hn0
          by_cases hs0 : ss.size = 0
          case neg =>
            have hs4 : ss.toList ≠ [] := fun e => hs0 (by rw [ByteArray.toList_eq] at e; have := congrArg List.length e; simpa using this)
            have hs5 : (ss.toList == []) = false := beq_eq_false_iff_ne.2 hs4
            have hs6 : ss.toList.isEmpty = false := List.isEmpty_eq_false_iff.2 hs4
            have hPF : P = false := by
              rw [HP.out]
              refine decide_eq_false ?_
              rintro ⟨⟨a1, a2⟩, a3, a4, a5, a6, a7⟩
              omega
            clear HP
            clear z1 z2 z3 z4
            go_wp2
            go_ret
            exact ⟨jretBw (by first | rfl | rw [hPF]), HB0.out.setCell (by simp) _⟩
          case pos =>
            obtain rfl := size0 hs0
            clear hs0
            by_cases hi0 : items.length = 0
            case neg =>
              have hi1 : 0 < items.length := by omega
              have hi2 : (0 : Int) < (items.length : Int) := by omega
              have hi3 : ((items.length : Int) == 0) = false := beq_eq_false_iff_ne.2 (by omega)
              have hPF : P = false := by
                rw [HP.out]
                refine decide_eq_false ?_
                rintro ⟨⟨a1, a2⟩, a3, a4, a5, a6, a7⟩
                omega
              clear HP
              clear z1 z2 z3 z4
              go_wp2
              go_ret
              exact ⟨jretBw (by first | rfl | rw [hPF]), HB0.out.setCell (by simp) _⟩
            case pos =>
              obtain rfl := List.length_eq_zero_iff.1 hi0
              clear hi0
              have hPT : P = true := by
                rw [HP.out]
                refine decide_eq_true ⟨⟨by decide, by decide⟩, .inr rfl, .inr rfl, .inr rfl, .inr rfl, .inl rfl⟩
              clear HP
              clear z1 z2 z3 z4
              go_wp2
              go_ret
              exact ⟨jretBw (by first | rfl | rw [hPT]), HB0.out.setCell (by simp) _⟩
end Go.Proofs.YtbfalppeifkjdaaGreatDoor
end
section
namespace Go.Proofs.YtbfalppeifkjdaaGreatDoor
open Go.RowKit Go.Maps
def kyD : List ByteArray → DataW Unit
  | [] => .map []
  | x :: r => (kyD r).put (.string x.data.toList) (.lit (.bool true))
theorem kyD_map : ∀ l, IsMap (kyD l)
  | [] => isMap_empty
  | _ :: r => (kyD_map r).put _ _
theorem ky_keyLit (t : List UInt8) : WideAt.IsKeyLit (.string t) := trivial
theorem kyD_yes (t : List UInt8) : ∀ l : List ByteArray, (∃ x ∈ l, x.data.toList = t) → (kyD l).atKey (.string t) (.lit (.bool false)) = .lit (.bool true)
  | [], h => by obtain ⟨x, hx, _⟩ := h; simp at hx
  | y :: r, h => by
    rw [kyD]
    by_cases hy : y.data.toList = t
    · rw [hy, atKey_put_same (kyD_map r) (ky_keyLit _)]
    · rw [atKey_put_other (by simpa using fun e : t = y.data.toList => hy e.symm)]
      refine kyD_yes t r ?_
      obtain ⟨x, hx, he⟩ := h
      rcases List.mem_cons.1 hx with rfl | hx
      · exact absurd he hy
      · exact ⟨x, hx, he⟩
theorem kyD_no (t : List UInt8) : ∀ l : List ByteArray, (¬ ∃ x ∈ l, x.data.toList = t) → (kyD l).atKey (.string t) (.lit (.bool false)) = .lit (.bool false)
  | [], _ => rfl
  | y :: r, h => by
    rw [kyD, atKey_put_other (by simpa using fun e : t = y.data.toList => h ⟨y, List.mem_cons_self .., e.symm⟩)]
    exact kyD_no t r fun ⟨x, hx, he⟩ => h ⟨x, List.mem_cons_of_mem _ hx, he⟩
theorem ky_law : Keyed Tryz.prog 9 := string_keyed Tryz.underlying9
theorem ky_zero (w : World) : (zeroValue 4).run Tryz.prog w = .ok (.bool false) w := by kernel_rfl
theorem ky_inv {P : Program} {e : TypeId} (he : P.underlying e = some .bool) {v : Value} {z : DataW Unit × List MemPlace} (h : plainElem P e v = some z) : ∃ b : Bool, v = .bool b ∧ z = (.lit (.bool b), []) := by
  unfold plainElem at h
  rw [he] at h
  cases v <;> simp at h
  exact ⟨_, rfl, h.symm⟩
def KySet (w : World) (b : Nat) (l : List ByteArray) : Prop := w.ownsMap Tryz.prog 9 (plainElem Tryz.prog 4) b l.length (kyD l)
theorem KySet.same {w w' : World} {b : Nat} {l : List ByteArray} (h : KySet w b l) (hb : w'.heap[b]? = w.heap[b]?) : KySet w' b l := by
  obtain ⟨es, clock, h1, h2⟩ := h
  exact ⟨es, clock, hb.trans h1, h2⟩
theorem KySet.lt {w : World} {b : Nat} {l : List ByteArray} (h : KySet w b l) : b < w.heap.size := by
  obtain ⟨es, clock, h1, _⟩ := h
  exact (Array.getElem?_eq_some_iff.1 h1).1
theorem KySet.look_yes {w : World} {b : Nat} {l : List ByteArray} (h : KySet w b l) (s : ByteArray) (hs : s.size ≤ maxLen) (hd : ∃ x ∈ l, x = s) : (Instr.lookup 203 (.map (some b)) (.string s) false).run Tryz.prog w = .ok (.bool true) w := by
  obtain ⟨v, ps, hrun, hv⟩ := World.ownsMap.lookup h ky_law Tryz.underlying203 (ky_zero w) (plainElem_bool Tryz.underlying4 false) (Go.WideMaps.keyOf_string_mk Tryz.underlying9 hs)
  obtain ⟨c, rfl, hz⟩ := ky_inv Tryz.underlying4 hv
  simp only [Prod.mk.injEq] at hz
  rw [hrun]
  have h3 := kyD_yes s.data.toList l (by obtain ⟨x, hx, rfl⟩ := hd; exact ⟨x, hx, rfl⟩)
  rw [Lit.bool.inj (DataW.lit.inj (hz.1.symm.trans h3))]
theorem KySet.look_no {w : World} {b : Nat} {l : List ByteArray} (h : KySet w b l) (s : ByteArray) (hs : s.size ≤ maxLen) (hd : ¬ ∃ x ∈ l, x = s) : (Instr.lookup 203 (.map (some b)) (.string s) false).run Tryz.prog w = .ok (.bool false) w := by
  obtain ⟨v, ps, hrun, hv⟩ := World.ownsMap.lookup h ky_law Tryz.underlying203 (ky_zero w) (plainElem_bool Tryz.underlying4 false) (Go.WideMaps.keyOf_string_mk Tryz.underlying9 hs)
  obtain ⟨c, rfl, hz⟩ := ky_inv Tryz.underlying4 hv
  simp only [Prod.mk.injEq] at hz
  rw [hrun]
  have h3 := kyD_no s.data.toList l (fun ⟨x, hx, he⟩ => hd ⟨x, hx, kstr_ext he⟩)
  rw [Lit.bool.inj (DataW.lit.inj (hz.1.symm.trans h3))]
theorem vdVs_drop (l : List ValD) (i d : Nat) (h : i < l.length) : vdVs (l.drop i) d = (l[i].vdB d && vdVs (l.drop (i + 1)) d) := by rw [List.drop_eq_getElem_cons h, vdVs]
theorem vdMs_drop (l : List MemD) (j d : Nat) (h : j < l.length) : vdMs ((l.take j).map MemD.key) (l.drop j) d = ((!(((l.take j).map MemD.key).any fun x => decide (x = l[j].key)) && (vaL l[j].key.data.toList && l[j].v.vdB d)) && vdMs ((l.take (j + 1)).map MemD.key) (l.drop (j + 1)) d) := by
  have ht : l.take (j + 1) = l.take j ++ [l[j]] := List.take_succ_eq_append_getElem h
  rw [List.drop_eq_getElem_cons h, vdMs, mvd_eq, ht, List.map_append]
  rfl
def VdAt (n : ValD) (d : Nat) : Prop := ∀ (v : Value) (w : World), HasUtf8 w → ValIs w n v → Calls Tryz.prog 138 #[v, .int .i64 (d : Int)] w fun e w' => e = .returned (.bool (n.vdB d)) ∧ Below w.heap.size w w'
set_option maxRecDepth 100000 in
set_option maxHeartbeats 16000000 in
theorem jw_validItems (items : List ValD) (d : Nat) (hA : ∀ k ∈ items, VdAt k d) (p : Option Addr) (c : Nat) (w : World) (hI : ItemsAt w p 0 items) (hl : items.length ≤ 1000000) (hT : HasUtf8 w) :
    Calls Tryz.prog 154 #[.slice p items.length c, .int .i64 (d : Int)] w fun e w' => e = .returned (.bool (vdVs items d)) ∧ Below w.heap.size w w' := by
  have HA := Lib.hid hA
  have HT := Lib.hid hT
  have HI := Lib.hid hI
  have hlz : (items.length : Int) ≤ 1000000 := by omega
  obtain ⟨R, hR⟩ : ∃ R, vdVs items d = R := ⟨_, rfl⟩
  rw [hR]
  have HD := Lib.hid hR.symm
  clear hA hT hI hR
  go_enter Tryz.func154, Tryz.ntmps154
  go_wp2
  go_loopw [9] (fun q wr => ∃ i : Nat, i ≤ items.length ∧ q = .int .i64 i ∧ R = vdVs (items.drop i) d ∧ Below w.heap.size w wr) (fun q _ => items.length - (RowKit.intOf q).toNat)
  case atStart => exact ⟨0, Nat.zero_le _, rfl, HD.out, Below.refl _ _⟩
  case round =>
    obtain ⟨i, hi, rfl, hrel, hbr⟩ := hrel
    have hzr := hbr.size
    by_cases hlt : i < items.length
    · have hiz : (i : Int) < (items.length : Int) := by omega
      obtain ⟨a, p2, c2, q2, d2, rfl, ⟨a0, a1, a2, a3, a4, a5, a6⟩, hk⟩ := (HI.out.below hbr).cells i hlt
      rw [vdVs_drop items i d hlt] at hrel
      obtain ⟨k, hkk⟩ : ∃ k, items[i] = k := ⟨_, rfl⟩
      have hmem : k ∈ items := by rw [← hkk]; exact List.getElem_mem _
      rw [hkk] at hk hrel a0 a1 a2 a3 a4 a5 a6
      obtain ⟨cc, hcc⟩ : ∃ c, a.add (i * 7) = c := ⟨_, rfl⟩
      rw [hcc] at a0 a1 a2 a3 a4 a5 a6
      simp only [Addr.add, Nat.reduceEqDiff, ↓reduceIte] at a1 a2 a3 a4 a5 a6
      obtain ⟨W2, hW2⟩ : ∃ W2, W2 = wr.alloc (.cells #[.int .i64 k.kind, .bool k.b, .int .i64 k.n, .string k.s, .slice p2 k.items.length c2, .slice q2 k.mems.length d2, .int .i64 k.at'] 119) := ⟨_, rfl⟩
      have hb2 : Below wr.heap.size wr W2 := by rw [hW2]; exact (Below.refl _ _).alloc (Nat.le_refl _) _
      have hbw2 := hbr.trans (hb2.mono hbr.size)
      have c1 := HA.out k hmem _ W2 (Utf8Tabs_below HT.out hbw2) (hk.below hb2)
      have c1 := fun (wx : World) (hx : wx = W2) => (show Calls Tryz.prog 138 _ wx _ from hx ▸ c1)
      have HBW := Lib.hid hbw2
      clear hk hmem hkk hbr hb2 hbw2
      rcases hv : k.vdB d with _ | _
      all_goals
        rw [hv] at hrel c1
        clear hv
      · have HX := Lib.hid (show R = false by rw [hrel]; rfl)
        clear hrel
        go_wp2_with fail
        refine (c1 _ hW2.symm).mono ?_
        rintro e w3 ⟨rfl, b3⟩
        rw [← hW2] at b3
        have HB3 := Lib.hid (HBW.out.trans (b3.mono HBW.out.size))
        clear b3 hW2 c1
        go_wp2
        go_ret
        exact ⟨jretBw HX.out.symm, HB3.out⟩
      · have HX := Lib.hid (show R = vdVs (items.drop (i + 1)) d by rw [hrel]; rfl)
        clear hrel
        go_wp2_with fail
        refine (c1 _ hW2.symm).mono ?_
        rintro e w3 ⟨rfl, b3⟩
        rw [← hW2] at b3
        have HB3 := Lib.hid (HBW.out.trans (b3.mono HBW.out.size))
        clear b3 hW2 c1
        go_wp2
        go_roundw
        case rel => exact ⟨i + 1, hlt, by go_num, HX.out, HB3.out⟩
        case measure => simp [RowKit.intOf]; omega
    · obtain rfl : i = items.length := by omega
      have hiz : ¬ (items.length : Int) < (items.length : Int) := by omega
      rw [List.drop_eq_nil_of_le (Nat.le_refl _), vdVs] at hrel
      have HX := Lib.hid hrel
      clear hrel
      go_wp2
      go_ret
      exact ⟨jretBw HX.out.symm, hbr⟩
set_option maxRecDepth 100000 in
set_option maxHeartbeats 16000000 in
theorem jw_validMembers (mems : List MemD) (d : Nat) (hA : ∀ m ∈ mems, m.key.size ≤ 1000000 ∧ VdAt m.v d) (p : Option Addr) (c : Nat) (w : World) (hI : MemsAt w p 0 mems) (hl : mems.length ≤ 1000000) (hT : HasUtf8 w) :
    Calls Tryz.prog 155 #[.slice p mems.length c, .int .i64 (d : Int)] w fun e w' => e = .returned (.bool (vdMs [] mems d)) ∧ Below w.heap.size w w' := by
  have hmm := @run_makeMap Tryz.prog
  have HA := Lib.hid hA
  have HT := Lib.hid hT
  have HI := Lib.hid hI
  have hlz : (mems.length : Int) ≤ 1000000 := by omega
  obtain ⟨R, hR⟩ : ∃ R, vdMs [] mems d = R := ⟨_, rfl⟩
  rw [hR]
  have HD := Lib.hid hR.symm
  have hS0 : KySet (w.alloc (.map #[] 0)) w.heap.size [] := World.ownsMap_made (H := Unit) w Tryz.prog 9 (plainElem Tryz.prog 4)
  have hB0 : Below w.heap.size w (w.alloc (.map #[] 0)) := (Below.refl _ _).alloc (Nat.le_refl _) _
  clear hA hT hI hR
  go_enter Tryz.func155, Tryz.ntmps155
  go_wp2
  go_loopw [11] (fun q wr => ∃ i : Nat, i ≤ mems.length ∧ q = .int .i64 i ∧ R = vdMs ((mems.take i).map MemD.key) (mems.drop i) d ∧ KySet wr w.heap.size ((mems.take i).map MemD.key).reverse ∧ Below w.heap.size w wr) (fun q _ => mems.length - (RowKit.intOf q).toNat)
  case atStart => exact ⟨0, Nat.zero_le _, rfl, HD.out, hS0, hB0⟩
  case round =>
    clear hmm hS0 hB0
    obtain ⟨i, hi, rfl, hrel, hS, hbr⟩ := hrel
    have hzr := hbr.size
    have hSlt := hS.lt
    by_cases hlt : i < mems.length
    · have hiz : (i : Int) < (mems.length : Int) := by omega
      obtain ⟨a, p2, c2, q2, d2, rfl, ⟨a0, a1, a2, a3, a4, a5, a6, a7, a8⟩, hk⟩ := (HI.out.below hbr).cells i hlt
      rw [vdMs_drop mems i d hlt] at hrel
      have htk : mems.take (i + 1) = mems.take i ++ [mems[i]] := List.take_succ_eq_append_getElem hlt
      obtain ⟨m, hkk⟩ : ∃ k, mems[i] = k := ⟨_, rfl⟩
      have hmem : m ∈ mems := by rw [← hkk]; exact List.getElem_mem _
      rw [hkk] at hk hrel htk a0 a1 a2 a3 a4 a5 a6 a7 a8
      obtain ⟨cc, hcc⟩ : ∃ c, a.add (i * 9) = c := ⟨_, rfl⟩
      rw [hcc] at a0 a1 a2 a3 a4 a5 a6 a7 a8
      simp only [Addr.add, Nat.reduceEqDiff, ↓reduceIte] at a1 a2 a3 a4 a5 a6 a7 a8
      obtain ⟨W2, hW2⟩ : ∃ W2, W2 = wr.alloc (.cells #[.string m.key, .int .i64 m.v.kind, .bool m.v.b, .int .i64 m.v.n, .string m.v.s, .slice p2 m.v.items.length c2, .slice q2 m.v.mems.length d2, .int .i64 m.v.at', .int .i64 m.at'] 188) := ⟨_, rfl⟩
      have B2 : Bj W2 wr.heap.size #[.string m.key, .int .i64 m.v.kind, .bool m.v.b, .int .i64 m.v.n, .string m.v.s, .slice p2 m.v.items.length c2, .slice q2 m.v.mems.length d2, .int .i64 m.v.at', .int .i64 m.at'] 188 := by rw [hW2]; exact Bj.new wr _ _
      have hb2 : Below wr.heap.size wr W2 := by rw [hW2]; exact (Below.refl _ _).alloc (Nat.le_refl _) _
      have hbw2 := hbr.trans (hb2.mono hbr.size)
      obtain ⟨hks, hA1⟩ := HA.out m hmem
      have hS2 := hS.same (hb2.block _ hSlt)
      have HS2 := Lib.hid hS2
      have HB2 := Lib.hid B2
      have HBW := Lib.hid hbw2
      have HTK := Lib.hid htk
      have HK := Lib.hid (hk.below hb2)
      have HA1 := Lib.hid hA1
      have c1 : ∀ wx, wx = W2 → _ := fun wx hx => js_ValidString m.key wx hks (hx ▸ Utf8Tabs_below HT.out hbw2)
      have hrl : ((mems.take i).map MemD.key).reverse.length ≤ 1000000 := by rw [List.length_reverse, List.length_map, List.length_take]; omega
      obtain ⟨⟨k0, k1, k2, k3, k4, k5, k6, k7, k8⟩, -⟩ := B2.nine
      have hlt2 := hS2.lt
      clear hk hmem hkk hbr hb2 hbw2 B2 hA1 htk hS hS2
      by_cases hin : (((mems.take i).map MemD.key).any fun x => decide (x = m.key)) = true
      · have hat := HS2.out.look_yes m.key (by unfold maxLen; omega) (by
          obtain ⟨y, hy, he⟩ := List.any_eq_true.1 hin
          exact ⟨y, List.mem_reverse.2 hy, of_decide_eq_true he⟩)
        have HX := Lib.hid (show R = false by rw [hrel, hin]; rfl)
        clear hrel hin c1
        go_upto_region 5 with fail
        simp only [← hW2]
        clear hW2
        go_wp2
        go_ret
        exact ⟨jretBw HX.out.symm, HBW.out⟩
      have hin0 : (((mems.take i).map MemD.key).any fun x => decide (x = m.key)) = false := Bool.eq_false_iff.2 hin
      rw [hin0] at hrel
      have hat := HS2.out.look_no m.key (by unfold maxLen; omega) (fun ⟨y, hy, he⟩ => hin (List.any_eq_true.2 ⟨y, List.mem_reverse.1 hy, decide_eq_true he⟩))
      have HIN := Lib.hid hin0
      clear hin hin0
      go_upto_region 5 with fail
      simp only [← hW2]
      clear hW2
      rcases hv : vaL m.key.data.toList with _ | _
      · have HX := Lib.hid (show R = false by rw [hrel, hv]; rfl)
        rw [hv] at c1
        clear hrel hv
        go_wp2_with fail
        refine (c1 _ rfl).mono ?_
        rintro e w3 ⟨rfl, b3⟩
        have HB3 := Lib.hid (HBW.out.trans (b3.mono HBW.out.size))
        clear b3 c1
        go_wp2
        go_ret
        exact ⟨jretBw HX.out.symm, HB3.out⟩
      rw [hv] at c1 hrel
      rcases hvd : m.v.vdB d with _ | _
      · have HX := Lib.hid (show R = false by rw [hrel, hvd]; rfl)
        clear hrel hv
        go_wp2_with fail
        refine (c1 _ rfl).mono ?_
        rintro e w3 ⟨rfl, b3⟩
        have HB3 := Lib.hid (HBW.out.trans (b3.mono HBW.out.size))
        obtain ⟨⟨j0, j1, j2, j3, j4, j5, j6, j7, j8⟩, -⟩ := (HB2.out.more b3).nine
        have c2 := HA1.out _ w3 (Utf8Tabs_below HT.out HB3.out) (HK.out.below b3)
        rw [hvd] at c2
        clear b3 c1 k0 k1 k2 k3 k4 k5 k6 k7 k8 hvd
        go_wp2_with fail
        refine c2.mono ?_
        rintro e w4 ⟨rfl, b4⟩
        have HB4 := Lib.hid (HB3.out.trans (b4.mono HB3.out.size))
        clear b4 c2
        go_wp2
        go_ret
        exact ⟨jretBw HX.out.symm, HB4.out⟩
      · have HX := Lib.hid (show R = vdMs ((mems.take (i + 1)).map MemD.key) (mems.drop (i + 1)) d by rw [hrel, hvd]; rfl)
        clear hrel hv
        go_wp2_with fail
        refine (c1 _ rfl).mono ?_
        rintro e w3 ⟨rfl, b3⟩
        have HB3 := Lib.hid (HBW.out.trans (b3.mono HBW.out.size))
        have B3 := HB2.out.more b3
        obtain ⟨⟨j0, j1, j2, j3, j4, j5, j6, j7, j8⟩, -⟩ := B3.nine
        have c2 := HA1.out _ w3 (Utf8Tabs_below HT.out HB3.out) (HK.out.below b3)
        rw [hvd] at c2
        have HS3 := Lib.hid (HS2.out.same (b3.block _ hlt2))
        clear b3 c1 k0 k1 k2 k3 k4 k5 k6 k7 k8 hvd
        go_wp2_with fail
        refine c2.mono ?_
        rintro e w4 ⟨rfl, b4⟩
        have HB4 := Lib.hid (HB3.out.trans (b4.mono HB3.out.size))
        have g0 := (B3.more b4).cell 0
        have hS4 := HS3.out.same (b4.block _ HS3.out.lt)
        have hkey := Go.WideMaps.keyOf_string_mk (P := Tryz.prog) Tryz.underlying9 (s := m.key) (by unfold maxLen; omega)
        unfold KySet at hS4
        clear b4 c2 j0 j1 j2 j3 j4 j5 j6 j7 j8 hat
        go_wp2_with (at_mapUpdate; refine wpList_mapUpdate_own _ rfl _ _ _ 203 rfl 9 4 ky_law Tryz.underlying203 (plainElem (H := Unit) Tryz.prog 4) w.heap.size ((mems.take i).map MemD.key).reverse.length _ rfl hS4 (by unfold maxLen; omega) _ _ _ rfl rfl hkey _ [] (plainElem_bool Tryz.underlying4 true) ?_; intro w6 hmap6 hgr6)
        have HN := Lib.hid (show KySet w6 w.heap.size ((mems.take (i + 1)).map MemD.key).reverse by
          rw [HTK.out, List.map_append, List.reverse_append, List.map_singleton, List.reverse_singleton, List.singleton_append]
          exact hmap6)
        have HB6 := Lib.hid (HB4.out.grown hgr6 HB4.out.size (fun g hg => by cases hg; exact Nat.le_refl _))
        clear hmap6 hgr6
        go_roundw
        case rel => exact ⟨i + 1, hlt, by go_num, HX.out, HN.out, HB6.out⟩
        case measure => simp [RowKit.intOf]; omega
    · obtain rfl : i = mems.length := by omega
      have hiz : ¬ (mems.length : Int) < (mems.length : Int) := by omega
      rw [List.drop_eq_nil_of_le (Nat.le_refl _), vdMs] at hrel
      have HX := Lib.hid hrel
      clear hrel hS
      go_wp2
      go_ret
      exact ⟨jretBw HX.out.symm, hbr⟩
set_option maxRecDepth 100000 in
set_option maxHeartbeats 16000000 in
theorem vd_step (f : Nat) (IH : ∀ (n : ValD) (d : Nat), n.bulk ≤ f → n.bulk ≤ 1000000 → d ≤ 101 → VdAt n d) (n : ValD) (d : Nat) (hf : n.bulk ≤ f + 1) (hc : n.bulk ≤ 1000000) (hd : d ≤ 101) : VdAt n d := by
    intro v w hT hn
    have hbe := vbulk_eq n
    have hD := vvd_eq n d
    obtain ⟨W0, hW0⟩ : ∃ W0, W0 = w.alloc (.cells v.cells 119) := ⟨_, rfl⟩
    have hb0 : Below w.heap.size w W0 := by rw [hW0]; exact (Below.refl _ _).alloc (Nat.le_refl _) _
    have hn0 := hn.below hb0
    have hT0 := Utf8Tabs_below hT hb0
    have cP := jw_proper n v W0 hc hn0
    have cS : ∀ wx, HasUtf8 wx → _ := fun wx h => js_ValidString n.s wx (by omega) h
    obtain ⟨p, c, q, d2, rfl, hI, hM⟩ := (val_is W0 n v).1 hn0
    have hil : n.items.length ≤ 1000000 := by have := bulkVs_len n.items; omega
    have hml : n.mems.length ≤ 1000000 := by have := bulkMs_len n.mems; omega
    have cI : d ≤ 100 → ∀ wx, ItemsAt wx p 0 n.items → HasUtf8 wx → _ := fun h wx hi ht => jw_validItems n.items (d + 1) (fun k hk => IH k (d + 1) (by have := bulk_item n k hk; omega) (by have := bulk_item n k hk; omega) (by omega)) p c wx hi hil ht
    have cM : d ≤ 100 → ∀ wx, MemsAt wx q 0 n.mems → HasUtf8 wx → _ := fun h wx hi ht => jw_validMembers n.mems (d + 1) (fun m hm => ⟨by have := bulk_mem n m hm; omega, IH m.v (d + 1) (by have := bulk_mem n m hm; omega) (by have := bulk_mem n m hm; omega) (by omega)⟩) q d2 wx hi hml ht
    rw [show ((d + 1 : Nat) : Int) = (d : Int) + 1 by omega] at cI cM
    have B0 : Bj W0 w.heap.size #[.int .i64 n.kind, .bool n.b, .int .i64 n.n, .string n.s, .slice p n.items.length c, .slice q n.mems.length d2, .int .i64 n.at'] 119 := by rw [hW0]; exact Bj.new w _ _
    have HBJ := Lib.hid B0
    have HB0 := Lib.hid hb0
    have HI := Lib.hid hI
    have HM := Lib.hid hM
    have HT := Lib.hid hT0
    have hwd : IntKind.i64.wrap ((d : Int) + 1) = (d : Int) + 1 := wrap_small _ (by omega) (by omega)
    obtain ⟨⟨f0, f1, f2, f3, f4, f5, f6⟩, -⟩ := B0.seven
    clear hb0 hT0 hn hn0 B0 hI hM hT hbe hc hf IH
    generalize n.vdB d = R at *
    generalize properB n = P at *
    generalize vaL n.s.data.toList = S at *
    generalize vdVs n.items (d + 1) = I at *
    generalize vdMs [] n.mems (d + 1) = M at *
    generalize n.kind = kd at *
    generalize n.b = bb at *
    generalize n.n = nn at *
    generalize n.s = ss at *
    generalize n.items = items at *
    generalize n.mems = mems at *
    generalize n.at' = aa at *
    have HD := Lib.hid hD
    clear hD
    go_enter Tryz.func138, Tryz.ntmps138
    go_upto_region 1 with fail
    simp only [Value.cells] at hW0
    simp only [← hW0]
    clear hW0
    by_cases hd1 : d ≤ 100
    case neg =>
      have q1 : ¬ (d : Int) ≤ 100 := by omega
      have HX := Lib.hid (show R = false by rw [HD.out, decide_eq_false hd1]; rfl)
      clear hd1 cI cM
      go_wp2
      go_ret
      exact ⟨jretBw HX.out.symm, HB0.out⟩
    have q1 : (d : Int) ≤ 100 := by omega
    have cI := cI hd1
    have cM := cM hd1
    have HD := Lib.hid (show R = (P && (S && (I && M))) by rw [HD.out, decide_eq_true hd1]; rfl)
    clear hd1
    rcases P with _ | _
    · have HX := Lib.hid (show R = false by rw [HD.out]; rfl)
      go_wp2_with fail
      refine cP.mono ?_
      rintro e w1 ⟨rfl, b1⟩
      have HB1 := Lib.hid (HB0.out.trans (b1.mono HB0.out.size))
      clear b1 cP
      go_wp2
      go_ret
      exact ⟨jretBw HX.out.symm, HB1.out⟩
    go_wp2_with fail
    refine cP.mono ?_
    rintro e w1 ⟨rfl, b1⟩
    have HB1 := Lib.hid (HB0.out.trans (b1.mono HB0.out.size))
    have t1 := Utf8Tabs_below HT.out b1
    have HI1 := Lib.hid (HI.out.below b1)
    have HM1 := Lib.hid (HM.out.below b1)
    have HBJ1 := Lib.hid (HBJ.out.more b1)
    obtain ⟨⟨g0, g1, g2, g3, g4, g5, g6⟩, -⟩ := (HBJ1.out).seven
    clear b1 cP f0 f1 f2 f3 f4 f5 f6 HI HM HBJ HT
    rcases S with _ | _
    · have HX := Lib.hid (show R = false by rw [HD.out]; rfl)
      go_wp2_with fail
      refine (cS _ t1).mono ?_
      rintro e w2 ⟨rfl, b2⟩
      have HB2 := Lib.hid (HB1.out.trans (b2.mono HB1.out.size))
      clear b2 cS
      go_wp2
      go_ret
      exact ⟨jretBw HX.out.symm, HB2.out⟩
    go_wp2_with fail
    refine (cS _ t1).mono ?_
    rintro e w2 ⟨rfl, b2⟩
    have HB2 := Lib.hid (HB1.out.trans (b2.mono HB1.out.size))
    have t2 := Utf8Tabs_below t1 b2
    have hI2 := HI1.out.below b2
    have HM2 := Lib.hid (HM1.out.below b2)
    have HBJ2 := Lib.hid (HBJ1.out.more b2)
    obtain ⟨⟨e0, e1, e2, e3, e4, e5, e6⟩, -⟩ := (HBJ2.out).seven
    have cI2 := cI w2 hI2 t2
    clear b2 cS g0 g1 g2 g3 g4 g5 g6 HI1 HM1 HBJ1 cI hI2
    rcases I with _ | _
    · have HX := Lib.hid (show R = false by rw [HD.out]; rfl)
      go_wp2_with fail
      refine cI2.mono ?_
      rintro e w3 ⟨rfl, b3⟩
      have HB3 := Lib.hid (HB2.out.trans (b3.mono HB2.out.size))
      clear b3 cI2
      go_wp2
      go_ret
      exact ⟨jretBw HX.out.symm, HB3.out⟩
    go_wp2_with fail
    refine cI2.mono ?_
    rintro e w3 ⟨rfl, b3⟩
    have HB3 := Lib.hid (HB2.out.trans (b3.mono HB2.out.size))
    have cM3 := cM w3 (HM2.out.below b3) (Utf8Tabs_below t2 b3)
    obtain ⟨⟨g0, g1, g2, g3, g4, g5, g6⟩, -⟩ := (HBJ2.out.more b3).seven
    clear b3 cI2 e0 e1 e2 e3 e4 e5 e6 HM2 HBJ2 cM
    have HX := Lib.hid (show R = M by rw [HD.out]; rfl)
    go_wp2_with fail
    refine cM3.mono ?_
    rintro e w4 ⟨rfl, b4⟩
    have HB4 := Lib.hid (HB3.out.trans (b4.mono HB3.out.size))
    clear b4 cM3
    go_wp2
    go_ret
    exact ⟨jretBw HX.out.symm, HB4.out⟩
theorem vd_all : ∀ (f : Nat) (n : ValD) (d : Nat), n.bulk ≤ f → n.bulk ≤ 1000000 → d ≤ 101 → VdAt n d
  | 0, n, _, hf, _, _ => absurd (bulk_pos n) (by omega)
  | f + 1, n, d, hf, hc, hd => vd_step f (vd_all f) n d hf hc hd
set_option maxRecDepth 100000 in
set_option maxHeartbeats 16000000 in
theorem jw_Check (n : ValD) (v : Value) (w : World) (hc : n.bulk ≤ 1000000) (hT : HasUtf8 w) (hn : ValIs w n v) : Calls Tryz.prog 123 #[v] w fun e w' => e = .returned (.int .i64 (chkZ n)) ∧ Below w.heap.size w w' := by
  obtain ⟨W0, hW0⟩ : ∃ W0, W0 = w.alloc (.cells v.cells 119) := ⟨_, rfl⟩
  have hb0 : Below w.heap.size w W0 := by rw [hW0]; exact (Below.refl _ _).alloc (Nat.le_refl _) _
  have c1 := vd_all n.bulk n 1 (Nat.le_refl _) hc (by omega) v W0 (Utf8Tabs_below hT hb0) (hn.below hb0)
  rw [jvalB_vd] at c1
  have hz : chkZ n = if jvalB n = true then 0 else 22 := rfl
  obtain ⟨p, c, q, d2, rfl, -, -⟩ := (val_is w n v).1 hn
  have B0 : Bj W0 w.heap.size #[.int .i64 n.kind, .bool n.b, .int .i64 n.n, .string n.s, .slice p n.items.length c, .slice q n.mems.length d2, .int .i64 n.at'] 119 := by rw [hW0]; exact Bj.new w _ _
  have HB0 := Lib.hid hb0
  obtain ⟨⟨f0, f1, f2, f3, f4, f5, f6⟩, -⟩ := B0.seven
  generalize chkZ n = Z at *
  generalize jvalB n = V at *
  have HZ := Lib.hid hz
  clear hz B0 hn hT hb0
  go_enter Tryz.func123, Tryz.ntmps123
  go_upto_region 1 with fail
  simp only [Value.cells] at hW0
  simp only [← hW0]
  clear hW0
  rcases V with _ | _
  · have HX := Lib.hid (show Z = 22 from HZ.out)
    go_wp2_with fail
    refine c1.mono ?_
    rintro e w1 ⟨rfl, b1⟩
    have HB1 := Lib.hid (HB0.out.trans (b1.mono HB0.out.size))
    clear b1 c1
    go_wp2
    go_ret
    exact ⟨jretI HX.out.symm, HB1.out⟩
  · have HX := Lib.hid (show Z = 0 from HZ.out)
    go_wp2_with fail
    refine c1.mono ?_
    rintro e w1 ⟨rfl, b1⟩
    have HB1 := Lib.hid (HB0.out.trans (b1.mono HB0.out.size))
    clear b1 c1
    go_wp2
    go_ret
    exact ⟨jretI HX.out.symm, HB1.out⟩
end Go.Proofs.YtbfalppeifkjdaaGreatDoor
end
